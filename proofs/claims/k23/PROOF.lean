import PyProof.Rows.All
import Wide.All
import OpenK.AllK
import Wide.FinOn
import Lean
import PyProof.EqAt
import PyProof.EqKinds
import PyProof.TupleCall
import PyProof.P3Eq
import PyProof.NeData
import PyProof.P3In
import PyProof.StrLawsChain
import KE.KIntText
import KE.IntTextLaws
import PyProof.Rows.StrJoinMade
import PyProof.Rows.FStr
import PyProof.ListMulRoad
import PySem.Challenge.RW_openhouses_k23_whole_the_best_lies_betwe
open List renaming getElem?_eq_getElem→Z9,length_map→ZA,mem_of_getElem?→ZE,mem_cons→ZF,map_append→ZG,length_append→ZH,not_mem_nil→ZI,getElem?_map→ZL,getElem?_eq_some_iff→ZN,mem_map→ZO,getD_eq_getElem?_getD→ZP,take_add_one→ZR,map_cons→ZS,mem_append_right→ZT,size_toArray→ZU,mem_cons_of_mem→ZW,take_length→ZY,mem_singleton→aa,getElem_of_mem→ab,mem_cons_self→ae,mem_append→af,length_take→ah,getElem?_append_right→ay,length_cons→az,getElem?_append_left→aF,all_eq_true→aG,sum_cons→aI,getElem?_cons_zero→aJ,take_of_length_le→aK,map_map→aL,nodup_cons→aM,getElem_mem→aN,range→aP,append_assoc→aQ,mem_append_left→aT,mem_filter→aU,nodup_append→ba,drop_eq_getElem_cons→bh,length_range→bo,all_map→bu,filter_append→bx,find?_cons→bz,length_singleton→b8,length→b9,length_drop→bA,extract_eq_take_drop→bB,pairwise_iff_getElem→bC,getElem?_zip_eq_some→bD,length_pos_iff→bE,map_congr_left→bF,length_zip→bH,zip_cons_cons→bI,pairwise_cons→bJ,getElem?_cons_succ→bM,not_lt→bN,mem_range→bO,take_append_drop→bP,any_eq_true→bQ,any_cons→bT,append_nil→bV,filter_sublist→bX,reverse_append→bY,getElem_take→cn,lt_asymm→cu,filter_cons→cz,length_eq_zero_iff→c0,getElem?_set_self→cB,map_nil→cD,of_mem_zip→cF,lt_irrefl→cK,length_eraseIdx→cL,drop_zero→cM,getElem?_of_mem→cN,mem_of_mem_take→cO,take_zero→cP,cons→cQ,filterMap_cons→cT,all_cons→cV,lt_trans→cW,mem_filterMap→cX,zipIdx_cons→dj,cons_append→dk,ext_getElem→dq,sublist_nil→dt,foldl_cons→dy,sum_append→dz,take_succ→dE,nodup_nil→dG,getElem?_take_of_lt→dN,length_filterMap_le→dP,pairwise_singleton→dQ,length_filter_le→e6,perm_append_comm→e7,getElem?_eq_none→eB,getElem?_set_ne→eC,mem_erase_of_ne→eF,pairwise_append→eG,reverse_reverse→eJ,getElem_toArray→eK,mem_of_mem_drop→eL,take_succ_cons→eP,drop_succ_cons→eQ,mem_map_of_mem→eR,map_inj_right→eU,sum_singleton→eW,ext_getElem?→eX,take_sublist→eZ,flatten_cons→ff,getElem_inj→fg,length_nil→fk,nil_append→fq,zip_append→fu,zipIdx_nil→fH,forIn_cons→fJ,filter_nil→fK,replicate→fQ,filterMap→fV,forIn_nil→fX,le_trans→gb,take_nil→gc,drop_nil→gf,foldl→gr
open PySem.Heap renaming get?_push_of_some→ZC,lt_size→ZK,get?_push_size→ZM,get?_update_other→ax,size_push→aA,get?_update_self→aE,get?_update_ne→eO,size_update→fj
open PySem.W renaming Frag→ZD,mg_none_of→ak,nsIn→aD,kia_one→aY,mg_of→bg,fnOf→bp,kitOne→bL,keepIn→cE,codeIn→cG,methodObj→cU,instObj→dc,OpenLaw→df,lookIn→dv,cellsFrom_some→dJ,kitx_list→eD,kitx_dict→eE,plainGet→eM,findIn→eY,WalkO→fh
open Nat renaming le_refl→ZJ,ne_of_lt→ZQ,lt_of_lt_of_le→ZX,le_trans→aj,zero_le→ao,le_succ→ar,lt_succ_of_lt→au,lt_succ_self→aH,lt_irrefl→aO,ne_of_gt→aW,not_lt_zero→b0,zero_add→bZ,not_lt→cH,mul_le_mul_right→cS,sub_self→di,le_of_lt→dY,pow_le_pow_right→eT,add_sub_cancel→fc,le_succ_of_le→fi,min_le_left→fU,add_assoc→gh,le_of_eq→gj,lt_or_ge→gp,min_self→gq,mod_lt→gz,succ→g8
open Bool renaming false_ne_true→ZV,false_eq_true→ai,and_eq_true→aB,eq_iff_iff→aZ,not_true→cx,false_and→cJ,or_false→fY,and_true→fZ
open Option renaming some→ZZ,map_some→bG,isSome_iff_exists→cj,isSome_map→cY,toList→dF,none→dX
open Array renaming length_toList→ag,toList_append→aq,size_push→av,getElem?_toList→aX,toList_push→bj,size_extract→br,toList_extract→bR,toList_reverse→bU,getD_eq_getD_getElem?→bW,size_append→ck,toList→cA,toList_setIfInBounds→dA,perm_iff_toList_perm→dB,getElem?_eq_getElem→dI,ext→dO,mem_of_getElem?→dU,mem_toList_iff→dZ,size_reverse→eN,toList_inj→fe,getD→gi
open Int renaming le_refl→aV,mul_le_mul_of_nonneg_right→bq,emod_nonneg→bK,emod_lt_of_pos→cg,toNat_natCast→cq,add_assoc→cy,add_zero→cI,mul_le_mul→cR,lt_of_le_of_lt→cZ,zero_add→dh,mul_nonneg→dM,ediv_one→et,le_trans→eA,natAbs_dvd_natAbs→eI,toNat_of_nonneg→eV,add_mul→gx,max_def→gy
local macro_rules|`(tactic|exists $es,*)=>`(tactic|refine ⟨$es,*, ?_⟩)
set_option Elab.async false
set_option linter.all false
set_option maxRecDepth 100000
set_option maxHeartbeats 4000000
namespace L2
open PySem PySem.W PyProof.Rows
section
variable {lt:Keyed->Keyed->Bool}
end
def Bq (xs:Array Keyed) (i:Nat):Keyed:=xs.getD i (Value.none,Value.none)
theorem OF {xs:Array Keyed} {i:Nat} (h:i < xs.size):xs[i]? = some (Bq xs i):=by
 unfold Bq;simp [gi,h]
theorem GU {xs ys:Array Keyed} {i j:Nat} (h:xs[i]? = ys[j]?):Bq xs i=Bq ys j:=by
 unfold Bq;rw [bW,bW,h]
theorem Lx {xs:Array Keyed} {i:Nat} (h:i < xs.size):Bq xs i ∈ xs:=dU (OF h)
def Q2 (prog:Program) (w:World) (A:Around) (s:Shared) (κ:SortKind) (lt:Keyed->Keyed->Bool) (a0:Array Keyed):Prop:=
 ∀ x y,x ∈ a0->y ∈ a0->∀ (Q:Bool->Shared->Prop) (E:Value->Shared->Prop),Q (lt x y) s->wpAny (model prog w) A (keyLt' κ x.1 y.1) Q E s
section
variable {prog:Program} {w:World} {A:Around} {E:Value->Shared->Prop} {s:Shared} {κ:SortKind} {lt:Keyed->Keyed->Bool} {a0:Array Keyed}
theorem AL {xs:Array Keyed} {i:Nat} {Q:Keyed->SortSt->Prop} {st:SortSt} (hi:i < xs.size) (h:Q (Bq xs i) st):wpS (model prog w) A E s (elem' xs i) Q st:=by
 rw [elem'_eq,OF hi];exact wpS_pure h
theorem FH {x y:Keyed} {Q:Option Bool->SortSt->Prop} {st:SortSt} (an:Q2 prog w A s κ lt a0) (hk:kindOf st=κ) (hx:x ∈ a0) (hy:y ∈ a0) (h:Q (some (lt x y)) st) :
  wpS (model prog w) A E s (lt' x y) Q st:=by
 rw [lt'_eq];refine wpS_bind (wpS_get ?_);rw [hk];refine wpS_bind (wpS_lift (wpAny_attempt (an x y hx hy _ _ ⟨rfl,?_⟩)));exact wpS_pure h
theorem Dh {i j:Nat} {Q:Option Bool->SortSt->Prop} {st:SortSt} (an:Q2 prog w A s κ lt a0) (hk:kindOf st=κ) (hp:(arrOf st).Perm a0) (hi:i < a0.size) (hj:j < a0.size)
  (h:Q (some (lt (Bq (arrOf st) i) (Bq (arrOf st) j))) st):wpS (model prog w) A E s (ltAt' i j) Q st:=by
 rw [ltAt'_eq];refine wpS_bind (wpS_get ?_);have e:=hp.size_eq;refine wpS_bind (AL (by lia) (wpS_bind (AL (by lia) ?_)));exact FH an hk ((Array.Perm.mem_iff hp).mp (Lx (by lia))) ((Array.Perm.mem_iff hp).mp (Lx (by lia))) h
def Tt:Bool->Keyed->Array Keyed->Nat->Nat->Nat->StateT SortSt Sem (Option Nat):=sortPriv% PySem.Builtin.gallop
def U0 (lt:Keyed->Keyed->Bool) (left:Bool) (key x:Keyed):Bool:=if left=true then lt x key else !(lt key x)
def VF (left:Bool) (key:Keyed) (arr:Array Keyed) (base i:Nat):StateT SortSt Sem (Option Bool):=do
 let x <- elem' arr (base + i)
 if left=true then lt' x key else do
  let r <- lt' key x
  pure (Option.map (fun b=>!b) r)
theorem QH {left:Bool} {key:Keyed} {arr:Array Keyed} {base i:Nat} {Q:Option Bool->SortSt->Prop} {st:SortSt} (an:Q2 prog w A s κ lt a0) (hk:kindOf st=κ)
  (hkey:key ∈ a0) (hx:Bq arr (base + i) ∈ a0) (hi:base + i < arr.size) (h:Q (some (U0 lt left key (Bq arr (base + i)))) st):wpS (model prog w) A E s (VF left key arr base i) Q st:=by
 unfold VF;refine wpS_bind (AL hi ?_);unfold U0 at h;cases left with
 | true=>
  simp only [if_true] at h ⊢;exact FH an hk hx hkey h
 | false=>
  simp only [ai,if_false] at h ⊢;exact wpS_bind (FH an hk hkey hx (wpS_pure h))
end
section lists
variable {lt:Keyed->Keyed->Bool}
theorem Jj {xs:Array Keyed} {i:Nat} (h:i < xs.toList.length):xs.toList[i]=Bq xs i:=by
 have h':i < xs.size:=by simpa using h
 unfold Bq;simp [gi,h']
theorem Ju {xs:Array Keyed} {i:Nat} (h:i < xs.size):xs.toList.drop i=Bq xs i :: xs.toList.drop (i + 1):=by
 rw [bh (by simpa using h),Jj]
theorem LL {xs:Array Keyed} {i:Nat} (h:i < xs.size):xs.toList.take (i + 1)=xs.toList.take i ++ [Bq xs i]:=by
 rw [dE,Z9 (by simpa using h),Jj];rfl
theorem K6 (xs:Array Keyed) (i k:Nat):xs.toList.drop i=(xs.extract i (i + k)).toList ++ xs.toList.drop (i + k):=by
 rw [bR,bB,Nat.add_sub_cancel_left,<-List.drop_drop];exact (bP _ _).symm
theorem EY {xs:Array Keyed} {i j:Nat} (h:i<=j):xs.toList.take j=xs.toList.take i ++ (xs.extract i j).toList:=by
 rw [bR,bB];have:j=i + (j - i):=by lia
 rw [this,List.take_add,<-this]
theorem Fj (xs:Array Keyed) (i:Nat):(xs.extract i).toList=xs.toList.drop i:=by
 rw [bR,bB];exact aK (by simp)
theorem Fi (xs:Array Keyed) (i:Nat):(xs.extract 0 i).toList=xs.toList.take i:=by
 rw [bR,bB];rfl
end lists
section
variable {prog:Program} {w:World} {A:Around} {E:Value->Shared->Prop} {s:Shared} {κ:SortKind} {lt:Keyed->Keyed->Bool} {a0:Array Keyed}
def RC:Array Keyed->Array Keyed->StateT SortSt Sem (Array Keyed):=sortPriv% PySem.Builtin.mergeLo
abbrev Cp (st:SortSt) (g:Nat):SortSt:=SortSt.mk' (kindOf st) (arrOf st) (pendingOf st) g (failedOf st)
theorem Bu {α:Type} {c:Prop} [Decidable c] {t e:StateT SortSt Sem α} {Q:α->SortSt->Prop} {st:SortSt} (hp:c->wpS (model prog w) A E s t Q st) (hn:¬ c->wpS (model prog w) A E s e Q st):wpS (model prog w) A E s (if c then t else e) Q st:=by
 by_cases h:c
 ·rw [if_pos h]; exact hp h
 ·rw [if_neg h]; exact hn h
theorem Bz {α:Type} {m n:Nat} {t e:StateT SortSt Sem α} {Q:α->SortSt->Prop} {st:SortSt} (hp:m=n->wpS (model prog w) A E s t Q st) (hn:¬ m=n->wpS (model prog w) A E s e Q st):wpS (model prog w) A E s (if (m == n)=true then t else e) Q st:=
 Bu (fun h=>hp (by simpa using h)) (fun h=>hn (by simpa using h))
theorem dup1 {G:Prop} {α:Type} {T:α->Prop} (main:(∀ x,T x)->G) (leaf:∀ x,T x):G:=main leaf
theorem T5 {G:Prop} {α β:Type} {T:α->β->Prop} (C:α->β->Prop) (main:(∀ x y,C x y->T x y)->G) (leaf:∀ x y,C x y->T x y):G:=main leaf
end
section
variable {prog:Program} {w:World} {A:Around} {E:Value->Shared->Prop} {s:Shared} {κ:SortKind} {lt:Keyed->Keyed->Bool} {a0:Array Keyed}
def RD:Array Keyed->Array Keyed->StateT SortSt Sem (Array Keyed):=sortPriv% PySem.Builtin.mergeHi
end
section segs
variable {lt:Keyed->Keyed->Bool}
theorem ND {xs:Array Keyed} {i j:Nat} (hj:j<=xs.size) (k:Nat):Bq (mirror xs i j ((j - i) / 2)) k=if i<=k/\k < j then Bq xs (i + j - 1 - k) else Bq xs k:=by
 have e:=getElem?_mirror_all (i:=i) hj k;split at e
 ·rw [if_pos ‹_›]; exact GU e
 ·rw [if_neg ‹_›]; exact GU e
theorem NF {xs:Array Keyed} {src d:Nat} (hs:src < xs.size) (hd:d<=src) (k:Nat) :
  Bq (bubble xs src d) k=if k=src - d then Bq xs src else if src - d < k/\k<=src then Bq xs (k - 1) else Bq xs k:=by
 have e:=getElem?_bubble hs d hd k;by_cases h1:k=src - d
 ·rw [if_pos h1] at e ⊢; exact GU e
 ·by_cases h2:src - d < k/\k<=src
  ·rw [if_neg h1,if_pos h2] at e ⊢; exact GU e
  ·rw [if_neg h1,if_neg h2] at e ⊢; exact GU e
def Kp (xs ys:Array Keyed) (lo:Nat):Prop:=ys.Perm xs/\∀ k,k < lo->Bq ys k=Bq xs k
theorem Kp.refl (xs:Array Keyed) (lo:Nat):Kp xs xs lo:=⟨Array.Perm.refl _,fun _ _=>rfl⟩
theorem Kp.size {xs ys:Array Keyed} {lo:Nat} (h:Kp xs ys lo):ys.size=xs.size:=h.1.size_eq
theorem Kp.mirror {xs ys:Array Keyed} {lo i j:Nat} (h:Kp xs ys lo) (hj:j<=xs.size) (hi:lo<=i):Kp xs (PyProof.Rows.mirror ys i j ((j - i) / 2)) lo:=by
 refine ⟨(mirror_perm _ _ _ _).trans h.1,fun k hk=>?_⟩;rw [ND (by rw [h.size]; exact hj),if_neg (by lia)];exact h.2 k hk
theorem Kp.bubble {xs ys:Array Keyed} {lo src d:Nat} (h:Kp xs ys lo) (hs:src < xs.size) (hd:lo + d<=src):Kp xs (PyProof.Rows.bubble ys src d) lo:=by
 refine ⟨(bubble_perm _ _ _).trans h.1,fun k hk=>?_⟩;rw [NF (by rw [h.size]; exact hs) (by lia),if_neg (by lia),if_neg (by lia)];exact h.2 k hk
end segs
section
variable {prog:Program} {w:World} {A:Around} {E:Value->Shared->Prop} {s:Shared} {κ:SortKind} {lt:Keyed->Keyed->Bool} {a0:Array Keyed}
theorem FG {i j:Nat} {Q:Unit->SortSt->Prop} {st:SortSt} (h:Q () (setArr st (mirror (arrOf st) i j ((j - i) / 2)))):wpS (model prog w) A E s (reverseSlice' i j) Q st:=by
 rw [reverseSlice'_eq];exact wpS_modify h
theorem Og {body:Nat->Option (Option Nat) × Nat->StateT SortSt Sem (ForInStep (Option (Option Nat) × Nat))} {f:Nat->Bool} {a nrem:Nat} {st:SortSt} (ha:a<=nrem)
  (hb:∀ x n (R:ForInStep (Option (Option Nat) × Nat)->SortSt->Prop),a<=n->n < nrem->(f n=true->R (.done (none,n)) st)->(f n=false->R (.yield (none,n + 1)) st)->wpS (model prog w) A E s (body x (none,n)) R st) :
  wpS (model prog w) A E s (forIn [a:nrem] (none,a) body) (fun c AG=>AG=st/\∃ n,c=(none,n)/\a<=n/\n<=nrem/\(∀ i,a<=i->i < n->f i=false)/\(n=nrem\/f n=true)) st:=by
 refine wpS_forRange (I:=fun x c AG=>AG=st/\c=(none,x)/\(∀ i,a<=i->i < x->f i=false)) ?_ ?_ ⟨rfl,rfl,fun i h1 h2=>by lia⟩
 ·rintro x c AG h1 h2 ⟨rfl,rfl,q⟩;refine hb _ _ _ h1 h2 (fun e=>⟨rfl,x,rfl,h1,by lia,q,.inr e⟩) (fun e=>⟨rfl,rfl,fun i i1 i2=>?_⟩);by_cases z:i=x
  ·rw [z]; exact e
  ·exact q i i1 (by lia)
 ·rintro c AG ⟨rfl,rfl,q⟩;rw [Nat.max_eq_right ha] at q ⊢;exact ⟨rfl,nrem,rfl,ha,ZJ _,q,.inl rfl⟩
end
section
variable {lt:Keyed->Keyed->Bool}
theorem Gf (xs:Array Keyed) (i:Nat):Bq xs i=xs.toList.getD i (Value.none,Value.none):=by
 unfold Bq;rw [bW,ZP,aX]
theorem HF {xs:Array Keyed} {a b i:Nat} (h1:a + i < b) (h2:b<=xs.size):Bq (xs.extract a b) i=Bq xs (a + i):=by
 apply GU;rw [Array.getElem?_extract,if_pos (by lia)]
theorem Mf (base:Nat):∀ (l:List Keyed) (off:Nat) (xs:Array Keyed),base + off + l.length<=xs.size ->
  ((l.zipIdx off).foldl (fun a x=>a.setIfInBounds (base + x.2) x.1) xs).toList=xs.toList.take (base + off) ++ l ++ xs.toList.drop (base + off + l.length)
 | [],off,xs,h=>by simp
 | y :: l,off,xs,h=>by
  rw [dj,dy];have hl:base + off < xs.toList.length:=by simp at h ⊢; lia
  rw [Mf base l (off + 1) (xs.setIfInBounds (base + off) y) (by rw [Array.size_setIfInBounds]; simp at h ⊢; lia)];rw [dA,<-gh,dE,List.take_set_of_le (ZJ _),cB hl,List.drop_set_of_lt (by lia)];simp only [dF,az];rw [show base + off + 1 + l.length=base + off + (l.length + 1) by lia];simp
theorem Qo {a b:List Keyed} {k:Nat} {d:Keyed} (h:k < a.length):(a ++ b).getD k d=a.getD k d:=by
 rw [ZP,ZP,aF h]
theorem Qn {a b:List Keyed} {k:Nat} {d:Keyed} (h:a.length<=k):(a ++ b).getD k d=b.getD (k - a.length) d:=by
 rw [ZP,ZP,ay h]
def QI (p:Nat × Nat × Nat):Nat × Nat:=(p.1,p.2.1)
end
section
variable {prog:Program} {w:World} {A:Around} {E:Value->Shared->Prop} {s:Shared} {κ:SortKind} {lt:Keyed->Keyed->Bool} {a0:Array Keyed}
theorem Sy {σ:Type} {M:Model} {st AG:σ} {Q:PUnit->σ->Prop} (h:Q ⟨⟩ AG):wpS M A E s (set AG:StateT σ Sem PUnit) Q st:=by
 unfold wpS;rw [StateT.run_set];exact wpAny_pure ⟨rfl,h⟩
end
section
variable {prog:Program} {w:World} {A:Around} {E:Value->Shared->Prop} {s:Shared} {κ:SortKind} {lt:Keyed->Keyed->Bool} {a0:Array Keyed}
theorem Jh (p:Array (Nat × Nat × Nat)) (i:Nat) (f:Nat × Nat × Nat->Nat × Nat × Nat) (hf:∀ x,QI (f x)=QI x):(p.modify i f).toList.map QI=p.toList.map QI:=by
 apply eX;intro k;rw [ZL,ZL,aX,aX,Array.getElem?_modify];split
 ·cases p[k]? with
  | none=>rfl
  | some x=>show some (QI (f x))=some (QI x); rw [hf]
 ·rfl
theorem V6 (c:Bool) (n:Nat) (h:1 < n):(if c=true then n - 2 - 1 else n - 2) + 1 < n:=by
 split <;> lia
end
end L2
namespace L2
open PySem PySem.Spec PyProof.Rows
abbrev Bj:=Sum Int Str
def Ji:Bj->Value->Bool
 | .inl k,v=>Value.isInt k v
 | .inr x,v=>Value.isStrOf x v
def keyH (w:World):Bj->Int
 | .inl k=>hashInt k
 | .inr x=>hashStr w x
theorem Bp:∀ {k:Bj} {v:Value},Ji k v=true->(∃ i t,k=Sum.inl i/\v=Value.int i t)\/(∃ x t,k=Sum.inr x/\v=Value.str x t)
 | .inl i,v,h=>by
  obtain ⟨t,e⟩:=Value.isInt_shape (k:=i) (v:=v) h;exact .inl ⟨i,t,rfl,e⟩
 | .inr x,v,h=>by
  obtain ⟨t,e⟩:=Value.isStrOf_shape (x:=x) (v:=v) h;exact .inr ⟨x,t,rfl,e⟩
theorem Qh (i:Int) (t:Tok):Ji (.inl i) (.int i t)=true:=by simp [Ji,Value.isInt]
theorem Qg (x:Str) (t:Tok):Ji (.inr x) (.str x t)=true:=by simp [Ji,Value.isStrOf]
theorem Vw (a b:Int):decide ((Sum.inl a:Bj)=Sum.inl b)=(a == b):=by
 by_cases e:a=b
 ·subst e; simp
 ·have h:¬ (Sum.inl a:Bj)=Sum.inl b:=fun q=>e (Sum.inl.inj q)
  rw [decide_eq_false h];exact (beq_eq_false_iff_ne.mpr e).symm
theorem Vt (a b:Str):decide ((Sum.inr a:Bj)=Sum.inr b)=decide (a=b):=by
 by_cases e:a=b
 ·subst e; simp
 ·have h:¬ (Sum.inr a:Bj)=Sum.inr b:=fun q=>e (Sum.inr.inj q)
  rw [decide_eq_false h,decide_eq_false e]
theorem Vv (a:Int) (b:Str):decide ((Sum.inl a:Bj)=Sum.inr b)=false:=decide_eq_false (fun q=>nomatch q)
theorem Vu (a:Str) (b:Int):decide ((Sum.inr a:Bj)=Sum.inl b)=false:=decide_eq_false (fun q=>nomatch q)
def Bd (prog:Program) (w:World):PySem.KeyKind prog w Bj where
 is:=Ji
 hash:=keyH w
 inj:=fun v a b ha hb=>by
  rcases Bp ha with ⟨i,t,rfl,rfl⟩ | ⟨x,t,rfl,rfl⟩
  ·rcases Bp hb with ⟨j,u,rfl,e⟩ | ⟨y,u,rfl,e⟩
   ·injection e with e1 _; rw [e1]
   ·exact nomatch e
  ·rcases Bp hb with ⟨j,u,rfl,e⟩ | ⟨y,u,rfl,e⟩
   ·exact nomatch e
   ·injection e with e1 _; rw [e1]
 byValue:=fun k v h=>by
  rcases Bp h with ⟨i,t,rfl,rfl⟩ | ⟨x,t,rfl,rfl⟩ <;> rfl
 pyHash:=fun hv h=>by
  rcases Bp hv with ⟨i,t,rfl,rfl⟩ | ⟨x,t,rfl,rfl⟩
  ·exact wpAny_pyHash_int h
  ·exact wpAny_pyHash_str h
 eqBool:=fun hu hv h=>by
  rcases Bp hu with ⟨i,t,rfl,rfl⟩ | ⟨x,t,rfl,rfl⟩
  ·rcases Bp hv with ⟨j,u,rfl,rfl⟩ | ⟨y,u,rfl,rfl⟩
   ·rw [Vw] at h; exact wpAny_eqBool_int h
   ·rw [Vv] at h; exact SeqAt.EqAt.int_str i t y u _ _ _ _ h
  ·rcases Bp hv with ⟨j,u,rfl,rfl⟩ | ⟨y,u,rfl,rfl⟩
   ·rw [Vu] at h; exact SeqAt.EqAt.str_int x t j u _ _ _ _ h
   ·rw [Vt] at h; exact wpAny_eqBool_str h
 «strs»:=fun k x t v h=>by
  rcases Bp h with ⟨i,u,rfl,e⟩ | ⟨y,u,rfl,e⟩
  ·exact nomatch e
  ·injection e with e1 _;subst e1;cases v <;> rfl
theorem M5 (prog:Program) (w:World) (i:Int) (t:Tok):(Bd prog w).is (.inl i) (.int i t)=true:=Qh i t
theorem HC (prog:Program) (w:World) (x:Str) (t:Tok):(Bd prog w).is (.inr x) (.str x t)=true:=Qg x t
inductive V where
 | non | bl (b:Bool) | int (i:Int) | str (x:Str) | byt (b:Array UInt8) | flt (b:UInt64) | ref (a:Addr) | ty (n:String)
 deriving DecidableEq
def AM:V->Value->Prop
 | .non,u=>u=Value.none
 | .bl b,u=>u=Value.bool b
 | .int i,u=>∃ t,u=Value.int i t
 | .str x,u=>∃ t,u=Value.str x t
 | .byt b,u=>∃ t,u=Value.bytes b t
 | .flt b,u=>∃ t,u=Value.float b t
 | .ref a,u=>u=Value.ref a
 | .ty n,u=>u=Value.type n
abbrev AF:List V->List Value->Prop:=Paired AM
theorem AF.length {xs:List V} {us:List Value} (r:AF xs us):xs.length=us.length:=Paired.length r
theorem AF.get:∀ {xs:List V} {us:List Value} {i:Nat} {x:V},AF xs us->xs[i]? = some x->∃ u,us[i]? = some u/\AM x u
 | _,_,_,_,.nil,e=>by simp at e
 | _,_,0,_,.cons r _,e=>by simp at e; subst e; exact ⟨_,rfl,r⟩
 | _,_,i + 1,x,.cons _ t,e=>by
  obtain ⟨u,h1,h2⟩:=AF.get (i:=i) (x:=x) t (by simpa using e);exact ⟨u,by simpa using h1,h2⟩
theorem AF.set {x:V} {u:Value} (r:AM x u):∀ {xs:List V} {us:List Value} (i:Nat),AF xs us->AF (xs.set i x) (us.set i u)
 | _,_,_,.nil=>.nil
 | _,_,0,.cons _ t=>.cons r t
 | _,_,i + 1,.cons q t=>.cons q (AF.set r i t)
theorem AF.append:∀ {xs ys:List V} {us ws:List Value},AF xs us->AF ys ws->AF (xs ++ ys) (us ++ ws)
 | _,_,_,_,.nil,s=>s
 | _,_,_,_,.cons r t,s=>.cons r (AF.append t s)
theorem AF.take:∀ {xs:List V} {us:List Value} (n:Nat),AF xs us->AF (xs.take n) (us.take n)
 | _,_,0,_=>.nil
 | _,_,_ + 1,.nil=>.nil
 | _,_,n + 1,.cons r t=>.cons r (AF.take n t)
theorem AF.drop:∀ {xs:List V} {us:List Value} (n:Nat),AF xs us->AF (xs.drop n) (us.drop n)
 | _,_,0,r=>r
 | _,_,_ + 1,.nil=>.nil
 | _,_,n + 1,.cons _ t=>AF.drop n t
def Hd:Option V->Option Value->Prop
 | some v,some u=>AM v u
 | none,none=>True
 | _,_=>False
def KV {κ:Type}:List (κ × V)->List (κ × Value)->Prop:=Paired fun (p:κ × V) (q:κ × Value)=>p.1=q.1/\AM p.2 q.2
def kV:Bj->V
 | .inl i=>.int i
 | .inr x=>.str x
inductive HO where
 /-- a list -/
 | lst (xs:List V)
 /-- a tuple (never changes) -/
 | tup (xs:List V)
 /-- a dict whose keys are ints and texts; one whose keys are tuples of ints and texts (the empty one is both) -/
 | dK (kvs:List (Bj × V)) | dT (kvs:List (List Bj × V))
 /-- a set of ints: Av members,Av size -/
 | set (S:Int->Bool) (n:Nat)
 /-- an instance of the class at C,Av dict at dx,Av attributes -/
 | ins (C dx:Addr) (fs:List (Str × V))
 /-- the dict of the instance at x -/
 | own (x:Addr)
 /-- the dict of an exception -/
 | xd (fs:List (Str × V))
 /-- a bound method,f of x -/
 | met (f x:Addr)
 /-- a range object lo,lo + 1,.. below hi -/
 | rng (lo hi:Int)
 /-- a thing that is known to the object (the script; a dict while a loop walks it): read,never written while it is so -/
 | frz (o:Obj) (u:HO)
 /-- a code Wu table -/
 | tbl (ps:Array Value)
 /-- any other thing,by what is true of Av one object (a def of one's own: SetO a S n:=HO.ext fun h=>..) -/
 | ext (φ:Heap->Prop)
abbrev Hp:=Addr->Option HO
def upd (H:Hp) (a:Addr) (o:HO):Hp:=fun b=>if b=a then some o else H b
theorem Ab {H:Hp} {a:Addr} {o:HO}:upd H a o a=some o:=by unfold upd; rw [if_pos rfl]
theorem Ae {H:Hp} {a b:Addr} {o:HO} (h:b ≠ a):upd H a o b=H b:=by unfold upd; rw [if_neg h]
theorem FK {H:Hp} {a:Addr} {o u:HO}:upd (upd H a o) a u=upd H a u:=by
 funext b; unfold upd; split <;> rfl
theorem Cy {H:Hp} {a b:Addr} {o u:HO} (h:H a=some o) (h':H b=some u) (d:o ≠ u):a ≠ b:=by
 intro e; subst e; rw [h] at h'; exact d (ZZ.inj h')
theorem Ah {H:Hp} {a b:Addr} {o:HO} (h:H a=some o) (h':H b=none):a ≠ b:=by
 intro e; subst e; rw [h] at h'; cases h'
def MP (h:Heap) (a:Addr):Prop:=∀ o,h.get? a=some o->o.dict=none
theorem MP.new {h:Heap} {o:Obj} (hd:o.dict=none) (hf:o.isFreed=false):MP (h.push o) h.objs.size:=fun o' e=>by
 rw [ZM _ hf] at e;cases e
 exact hd
section
variable (P:Program) (w:World)
def AV (H:Hp) (h:Heap) (a:Addr):HO->Prop
 | .lst xs=>xs.length<=sizeLine/\∃ (Av:List Value) (n:Nat),AF xs Av/\h.get? a=some { cls:=.type "list",data:=.seq Av.toArray n }
 | .tup xs=>xs.length<=sizeLine/\∃ Av:List Value,AF xs Av/\IsTup h a Av.toArray/\MP h a
 | .dK kvs=>kvs.length<=sizeLine/\(a == sysModules)=false/\∃ vs,KV kvs vs/\h.DictOf (Bd P w) a vs
 | .dT kvs=>kvs.length<=sizeLine/\(a == sysModules)=false/\∃ xs:List (List Bj × Addr × Value),
   Paired (fun (p:List Bj × V) (q:List Bj × Addr × Value)=>p.1=q.1/\H q.2.1=some (.tup (p.1.map kV))/\AM p.2 q.2.2) kvs xs /\
   ∃ o es ep,h.get? a=some o/\o.ExactDict/\o.data=.dict es ep/\es.toList=xs.map (entryOfKey (tupleKind (Bd P w)))/\(xs.map (·.1)).Nodup
 | .set S n=>h.SetOf (intKind P w) a S n
 | .ins C dx fs=>H dx=some (.own a)/\fs.length<=1000/\dx ≠ a/\h.get? a=some (dc C dx) /\
   ∃ mA,h.Ns1 dx mA/\(∀ f,Hd (fs.lookup f) (mA f))/\PySem.Within mA (fs.map (·.1))
 | .own _=>∃ o,h.get? a=some o
 | .xd fs=>∃ mA,h.Ns1 a mA/\∀ f,Hd (fs.lookup f) (mA f)
 | .rng lo hi=>∃ t u v,h.get? a=some { cls:=.type "range",data:=.fields #[.int lo t,.int hi u,.int 1 v] }
 | .frz o u=>h.get? a=some o/\AV H h a u
 | .tbl ps=>h.get? a=some { cls:=.none,data:=.fields ps }
 | .met f x=>h.get? a=some (cU (.ref f) (.ref x))
 | .ext φ=>φ h/\(∃ o,h.get? a=some o)/\∀ h1 h2:Heap,φ h1->(∀ o,h1.get? a=some o->h2.get? a=some o)->φ h2
def FE (H:Hp) (h:Heap):Prop:=∀ a o,H a=some o->AV P w H h a o
end
section
variable {P:Program} {w:World} {H H':Hp} {h h':Heap} {a:Addr} {o:HO}
theorem AV.lt (x:AV P w H h a o):a < h.objs.size:=by
 cases o with
 | lst xs=>obtain ⟨_,_,_,_,e⟩:=x; exact ZK e
 | tup xs=>obtain ⟨_,_,_,p,_⟩:=x; exact p.lt
 | dK kvs=>obtain ⟨_,_,_,_,o,_,_,e,_⟩:=x; exact ZK e
 | dT kvs=>obtain ⟨_,_,_,_,o,_,_,e,_⟩:=x; exact ZK e
 | set S n=>obtain ⟨o,_,_,_,e,_⟩:=x; exact ZK e
 | ins C dx fs=>obtain ⟨_,_,_,e,_⟩:=x; exact ZK e
 | own y=>obtain ⟨_,e⟩:=x; exact ZK e
 | xd fs=>obtain ⟨_,⟨_,_,_,e,_⟩,_⟩:=x; exact ZK e
 | rng lo hi=>obtain ⟨_,_,_,e⟩:=x; exact ZK e
 | frz ob u=>obtain ⟨e,_⟩:=x; exact ZK e
 | tbl ps=>exact ZK (show h.get? a=some _ from x)
 | met f y=>exact ZK (show h.get? a=some _ from x)
 | ext φ=>obtain ⟨_,⟨_,e⟩,_⟩:=x; exact ZK e
theorem Paired.mapP {α β:Type} {F G:α->β->Prop}:∀ {RF:List α} {RE:List β},Paired F RF RE->(∀ a b,F a b->G a b)->Paired G RF RE
 | _,_,.nil,_=>.nil
 | _,_,.cons r t,f=>.cons (f _ _ r) (Paired.mapP t f)
theorem AV.stay (x:AV P w H h a o) (k:∀ b u,(b=a\/H b=some (.own a))->h.get? b=some u->h'.get? b=some u)
  (ho:∀ b,H b=some (.own a)->H' b=some (.own a)) (ht:∀ b xs,H b=some (.tup xs)->H' b=some (.tup xs)):AV P w H' h' a o:=by
 induction o with
 | lst xs=>obtain ⟨z,Av,n,r,e⟩:=x; exact ⟨z,Av,n,r,k _ _ (.inl rfl) e⟩
 | tup xs=>
  obtain ⟨z,Av,r,⟨ob,e,c⟩,dn⟩:=x;have e':=k _ _ (.inl rfl) e;exact ⟨z,Av,r,⟨ob,e',c⟩,fun o q=>by rw [e'] at q; cases q; exact dn _ e⟩
 | dK kvs=>obtain ⟨z,y,vs,r,ob,es,ep,e,c⟩:=x; exact ⟨z,y,vs,r,ob,es,ep,k _ _ (.inl rfl) e,c⟩
 | dT kvs=>
  obtain ⟨z,y,xs,r,ob,es,ep,e,c⟩:=x;exact ⟨z,y,xs,Paired.mapP r fun p q z=>⟨z.1,ht _ _ z.2.1,z.2.2⟩,ob,es,ep,k _ _ (.inl rfl) e,c⟩
 | set S n=>obtain ⟨ob,es,ep,t,e,c⟩:=x; exact ⟨ob,es,ep,t,k _ _ (.inl rfl) e,c⟩
 | ins C dx fs=>
  obtain ⟨d,z,ne,e,mA,⟨od,es,ep,e2,c⟩,r⟩:=x;exact ⟨ho _ d,z,ne,k _ _ (.inl rfl) e,mA,⟨od,es,ep,k _ _ (.inr d) e2,c⟩,r⟩
 | own y=>obtain ⟨ob,e⟩:=x; exact ⟨ob,k _ _ (.inl rfl) e⟩
 | xd fs=>obtain ⟨mA,⟨od,es,ep,e,c⟩,r⟩:=x; exact ⟨mA,⟨od,es,ep,k _ _ (.inl rfl) e,c⟩,r⟩
 | rng lo hi=>obtain ⟨t,u,v,e⟩:=x; exact ⟨t,u,v,k _ _ (.inl rfl) e⟩
 | frz ob u ih=>obtain ⟨e,q⟩:=x; exact ⟨k _ _ (.inl rfl) e,ih q⟩
 | tbl ps=>
  have e:h.get? a=some { cls:=.none,data:=.fields ps }:=x;show h'.get? a=some { cls:=.none,data:=.fields ps }
  exact k a _ (.inl rfl) e
 | met f y=>
  have e:h.get? a=some (cU (.ref f) (.ref y)):=x;show h'.get? a=some (cU (.ref f) (.ref y))
  exact k a _ (.inl rfl) e
 | ext φ=>obtain ⟨p,⟨o,e⟩,st⟩:=x; exact ⟨st _ _ p fun o q=>k _ _ (.inl rfl) q,⟨o,k _ _ (.inl rfl) e⟩,st⟩
theorem FE.lt (x:FE P w H h) (e:H a=some o):a < h.objs.size:=(x a o e).lt
theorem FE.fresh (x:FE P w H h) (e:h.objs.size<=a):H a=none:=by
 cases q:H a with
 | none=>rfl
 | some u=>exact absurd (ZX (x.lt q) e) (aO _)
theorem FE.kept (x:FE P w H h) (k:∀ b u,h.get? b=some u->h'.get? b=some u):FE P w H h':=fun a o e=>
 (x a o e).stay (fun b u _ q=>k b u q) (fun _ q=>q) fun _ _ q=>q
theorem FE.laid (x:FE P w H h) (k:∀ b u,h.get? b=some u->h'.get? b=some u) (hp:h.objs.size<=a) (new:AV P w (upd H a o) h' a o):FE P w (upd H a o) h':=fun b u e=>by
 have hn:=x.fresh hp;by_cases hb:b=a
 ·subst hb; rw [Ab] at e; cases e; exact new
 ·rw [Ae hb] at e;exact (x b u e).stay (fun c v _ q=>k c v q) (fun c q=>by rw [Ae (Ah q hn)]; exact q) fun c xs q=>by rw [Ae (Ah q hn)]; exact q
end
def Rd (H:Hp) (a:Addr) (u:HO):Prop:=H a=some u\/∃ o,H a=some (.frz o u)
theorem Rd.ok {P:Program} {w:World} {H:Hp} {h:Heap} {a:Addr} {u:HO} (r:Rd H a u) (x:FE P w H h):AV P w H h a u:=by
 rcases r with r | ⟨o,r⟩
 ·exact x a u r
 ·obtain ⟨_,q⟩:=x a _ r;exact q
def Mut:Option HO->Prop
 | some (.lst _)=>True
 | some (.dK _)=>True
 | some (.dT _)=>True
 | some (.set _ _)=>True
 | some (.ins _ _ _)=>True
 | some (.ext _)=>True
 | _=>False
section
variable {P:Program} {w:World} {H:Hp} {h h':Heap} {x e:Addr} {o':HO}
theorem FE.write (ok:FE P w H h) (mu:Mut (H x)) (he:e=x\/H e=some (.own x)) (k:∀ b u,b ≠ e->h.get? b=some u->h'.get? b=some u) (heo:∃ u,h'.get? e=some u)
  (new:AV P w (upd H x o') h' x o'):FE P w (upd H x o') h':=fun b u q=>by
 have nown:∀ c y,H c=some (.own y)->c ≠ x:=fun c y r z=>by subst z; rw [r] at mu; exact mu
 have ntup:∀ c xs,H c=some (.tup xs)->c ≠ x:=fun c xs r z=>by subst z; rw [r] at mu; exact mu
 by_cases hb:b=x
 ·subst hb; rw [Ab] at q; cases q; exact new
 ·rw [Ae hb] at q;by_cases hbe:b=e
  ·have q':H b=some (.own x):=by
    rcases he with z | z
    ·exact absurd (hbe.trans z) hb
    ·rw [hbe]; exact z
   rw [q] at q'; cases q';obtain ⟨v,hv⟩:=heo;exact ⟨v,by rw [hbe]; exact hv⟩
  ·refine (ok b u q).stay (fun c v hc r=>k c v ?_ r) (fun c r=>by rw [Ae (nown c b r)]; exact r) fun c xs r=>by rw [Ae (ntup c xs r)]; exact r
   rcases hc with rfl | hc
   ·exact hbe
   ·rintro rfl;rcases he with z | z
    ·exact nown c b hc z
    ·rw [hc] at z; cases z; exact hb rfl
end
structure Un (fs ex:List Addr) (H H':Hp) (h h':Heap):Prop where
 keep:∀ b o,h.get? b=some o->H b=none->b ∉ fs->b ∉ ex->h'.get? b=some o
 slot:∀ b o,h.get? b=some o->H b=none->b ∈ fs->b ∉ ex->∃ sl,h'.get? b=some { o with slots:=sl }
 free:∀ b o,h.get? b=some o->H b=none->b ∉ ex->H' b=none
 there:∀ b o,h.get? b=some o->b ∉ ex->∃ o',h'.get? b=some o'
 tups:∀ b xs,H b=some (.tup xs)->H' b=some (.tup xs)
 frzs:∀ b o u,H b=some (.frz o u)->H' b=some (.frz o u)
 tbls:∀ b ps,H b=some (.tbl ps)->∃ more,H' b=some (.tbl (ps ++ more))
section
variable {fs Wd ex LF:List Addr} {H H1 H2:Hp} {h h1 h2 h':Heap} {a x e:Addr} {o:HO}
theorem Un.any (u:Un fs ex H H1 h h1) {b:Addr} {ob:Obj} (q:h.get? b=some ob) (n:H b=none) (hx:b ∉ ex):∃ sl,h1.get? b=some { ob with slots:=sl }:=by
 by_cases hb:b ∈ fs
 ·exact u.slot b ob q n hb hx
 ·exact ⟨ob.slots,u.keep b ob q n hb hx⟩
theorem Un.kept (k:∀ b u,h.get? b=some u->h'.get? b=some u):Un fs ex H H h h':=
 ⟨fun b ob q _ _ _=>k b ob q,fun b ob q _ _ _=>⟨ob.slots,k b ob q⟩,fun _ _ _ n _=>n,fun b ob q _=>⟨ob,k b ob q⟩,fun _ _ q=>q,fun _ _ _ q=>q,fun _ ps q=>⟨#[],by rw [q]; simp⟩⟩
theorem Un.refl:Un fs ex H H h h:=Un.kept fun _ _ q=>q
theorem Un.laid (k:∀ b u,h.get? b=some u->h'.get? b=some u) (hp:h.objs.size<=a) (hn:H a=none):Un fs ex H (upd H a o) h h' where
 keep:=fun b u q _ _ _=>k b u q
 slot:=fun b u q _ _ _=>⟨u.slots,k b u q⟩
 free:=fun b u q n _=>by rw [Ae (ZQ (ZX (ZK q) hp))]; exact n
 there:=fun b u q _=>⟨u,k b u q⟩
 tups:=fun b xs q=>by rw [Ae (Ah q hn)]; exact q
 frzs:=fun b u xs q=>by rw [Ae (Ah q hn)]; exact q
 tbls:=fun b ps q=>⟨#[],by rw [Ae (Ah q hn),q]; simp⟩
theorem Un.write (mu:Mut (H x)) (he:e=x\/H e=some (.own x)) (k:∀ b u,b ≠ e->h.get? b=some u->h'.get? b=some u) (heo:∃ u,h'.get? e=some u):Un fs ex H (upd H x o) h h':=by
 have hx:∀ b,H b=none->b ≠ x:=fun b n z=>by subst z; rw [n] at mu; exact mu
 have hb:∀ b,H b=none->b ≠ e:=fun b n z=>by
  subst z;rcases he with r | r
  ·exact hx b n r
  ·rw [n] at r; cases r
 have hm:∀ b u,H b=some u->¬ Mut (some u)->b ≠ x:=fun b u q nm z=>by subst z; rw [q] at mu; exact nm mu
 refine ⟨fun b u q n _ _=>k b u (hb b n) q,fun b u q n _ _=>⟨u.slots,k b u (hb b n) q⟩,fun b u q n _=>by rw [Ae (hx b n)]; exact n,fun b u q _=>?_,
  fun b xs q=>by rw [Ae (hm b _ q fun z=>z)]; exact q,fun b u xs q=>by rw [Ae (hm b _ q fun z=>z)]; exact q,fun b ps q=>⟨#[],by rw [Ae (hm b _ q fun z=>z),q]; simp⟩⟩
 by_cases hbe:b=e
 ·subst hbe; exact heo
 ·exact ⟨u,k b u hbe q⟩
end
def trk (h:Heap) (H:Hp):List Addr:=(aP h.objs.size).filter fun a=>(H a).isSome
def Ly (h:Heap) (H:Hp):Heap:=PySem.W.hideAll h (trk h H)
theorem Qk (h:Heap) (H:Hp):(Ly h H).objs.size=h.objs.size:=PySem.W.hideAll_size _ _
theorem RS {h:Heap} {H:Hp} {b:Addr} {o:Obj} (e:h.get? b=some o) (n:H b=none):(Ly h H).get? b=some o:=
 PySem.W.hideAll_get _ e fun hm=>by
  have q:(H b).isSome=true:=(aU.mp hm).2;rw [n] at q; simp at q
theorem SW {h:Heap} {H:Hp} {b:Addr} {o:Obj} (e:(Ly h H).get? b=some o):h.get? b=some o/\H b=none:=by
 have e':h.get? b=some o:=PySem.W.of_hideAll (trk h H) e;exists e';cases q:H b with
 | none=>rfl
 | some x=>
  have hm:b ∈ trk h H:=aU.mpr ⟨bO.mpr (ZK e'),by simp [q]⟩;have z:(Ly h H).get? b=none:=PySem.W.hideAll_none (trk h H) hm;rw [z] at e; cases e
structure Mod (K:ZD) (mg:Str->Option Value) (base:Heap):Prop where
 kin:K.In base
 glob:base.Ns mainGlobals mg
 blt:∃ mb,base.Ns builtinsNs mb/\∀ x:Str,x ≠ "__name__"->mb x=bootBuiltins x
 nolimit:base.NoLimit
structure Cx where
 prog:Program
 w:World
 K:ZD
 mg:Str->Option Value
 base:Heap
 A:Around
 N:List Str
 s₀:Shared
 H₀:Hp
 env:Env
 outer:List Env
 stack:List Env
 ex:List Addr
 fn:Str->Bool
 calm:Bool
 pn:List (Addr × Obj)
 xe:Value->Shared->Prop
def RU (l:List Env):List Addr:=l.filterMap (·.frame)
abbrev Cx.fs (X:Cx):List Addr:=RU X.outer
def Vis (sc:Scope) (x:Str):Prop:=sc.names.lookup x=some .local\/sc.names.lookup x=some .cell\/sc.names.lookup x=some .free
def Wh (sc:Scope) (x:Str):Prop:=sc.names.lookup x=some .local\/sc.names.lookup x=some .cell
def Look (env:Env) (h:Heap) (m:Str->Option Value) (x:Str) (u:Value):Prop:=
 (env.kindOf x=some .local/\m x=some u)\/((env.kindOf x=some .cell\/env.kindOf x=some .free)/\∃ c,env.cells.lookup x=some c/\h.IsCell c (some u))
structure Cx.Ok (X:Cx):Prop where
 mod:Mod X.K X.mg X.base
 kind:X.env.scope.kind=.function
 glob:X.env.globals=mainGlobals
 blt:X.env.builtins=builtinsNs
 above:X.s₀.heap.objs.size<=X.env.locals
 inj:∀ x y c,X.env.cells.lookup x=some c->X.env.cells.lookup y=some c->x=y
 has:∀ x,(X.env.kindOf x=some .cell\/X.env.kindOf x=some .free)->∃ c,X.env.cells.lookup x=some c
 cab:∀ x c,X.fn x=true->X.env.cells.lookup x=some c->X.s₀.heap.objs.size<=c
 hd:X.calm=true->X.A.handled=none
 frames:X.A.frames=some X.stack
 stk:X.stack=X.outer\/(X.stack=X.env :: X.outer/\X.env.frame=some X.env.locals)
 exf:∀ b ∈ X.ex,b ≠ X.env.locals/\∀ x c,X.env.cells.lookup x=some c->c ≠ b
 bs:∀ b o,X.base.get? b=some o->X.s₀.heap.get? b=some o/\X.H₀ b=none
 bsz:X.base.objs.size<=X.s₀.heap.objs.size
 noex:∀ b o,X.base.get? b=some o->b ∉ X.ex
 exfs:∀ b ∈ X.ex,b ∉ X.fs
 funs:X.s₀.heap.FunFrames X.base X.outer
 frf:∀ b ∈ X.fs,X.H₀ b=none
structure Au (X:Cx) (pins:List (Addr × Obj)) (σ:List (Option V)) (H:Hp) (s:Shared):Prop where
 ok:X.Ok
 os:s.os=X.s₀.os
 bare:AllBare s.gens
 base:Un X.fs X.ex X.H₀ H X.s₀.heap s.heap
 loc:∃ m,s.heap.Ns X.env.locals m/\∀ (i:Nat) (x:Str) (v:V),X.N[i]? = some x->σ[i]? = some (some v)->Vis X.env.scope x->∃ u,AM v u/\Look X.env s.heap m x u
 cell:∀ x c,X.env.cells.lookup x=some c->∃ v,s.heap.IsCell c v
 free:H X.env.locals=none
 freeC:∀ x c,X.env.cells.lookup x=some c->H c=none
 pin:∀ p ∈ X.pn ++ pins,s.heap.get? p.1=some p.2/\H p.1=none/\p.1 ≠ X.env.locals/\p.1 ∉ X.fs/\∀ v,p.2.data ≠ .cell v
 hok:FE X.prog X.w H s.heap
 len:σ.length=X.N.length
section
variable {X:Cx} {pins:List (Addr × Obj)} {σ:List (Option V)} {H H':Hp} {s:Shared} {h':Heap}
theorem Cx.Ok.nofr (ok:X.Ok) {b:Addr} {o:Obj} (e:X.base.get? b=some o):b ∉ X.fs:=fun hb=>by
 have:=(ok.funs.mem hb).1;rw [e] at this; cases this
theorem Au.bs (I:Au X pins σ H s):∀ b o,X.base.get? b=some o->s.heap.get? b=some o/\H b=none:=fun b o e=>
 ⟨I.base.keep b o (I.ok.bs b o e).1 (I.ok.bs b o e).2 (I.ok.nofr e) (I.ok.noex b o e),I.base.free b o (I.ok.bs b o e).1 (I.ok.bs b o e).2 (I.ok.noex b o e)⟩
theorem Au.bk (I:Au X pins σ H s):∀ b o,X.base.get? b=some o->s.heap.get? b=some o:=fun b o e=>(I.bs b o e).1
theorem Au.mod (I:Au X pins σ H s):Mod X.K X.mg X.base:=I.ok.mod
theorem Au.kIn (I:Au X pins σ H s):X.K.In s.heap:=I.ok.mod.kin.keeps I.bk
theorem Au.lt (I:Au X pins σ H s):X.env.locals < s.heap.objs.size:=let ⟨_,hn,_⟩:=I.loc; hn.lt
theorem Au.sz (I:Au X pins σ H s):X.s₀.heap.objs.size<=s.heap.objs.size:=aj I.ok.above (dY I.lt)
theorem Au.nofs (I:Au X pins σ H s) {a:Addr} (h:s.heap.objs.size<=a):a ∉ X.fs:=fun hb=>by
 obtain ⟨_,o,ho,_⟩:=I.ok.funs.mem hb;exact absurd (ZX (ZK ho) (aj I.sz h)) (aO _)
theorem Au.cne (I:Au X pins σ H s):∀ x c,X.env.cells.lookup x=some c->c ≠ X.env.locals:=fun x c e z=>by
 obtain ⟨v,o,ho,hd⟩:=I.cell x c e;obtain ⟨m,⟨o',es,ep,Im,Lz,_⟩,_⟩:=I.loc;rw [z,Im] at ho; cases ho; rw [Lz] at hd; cases hd
theorem Au.funs (I:Au X pins σ H s):s.heap.FunFrames X.base X.outer:=by
 have all:∀ (l:List Env),(∀ b ∈ RU l,b ∈ X.fs)->X.s₀.heap.FunFrames X.base l->s.heap.FunFrames X.base l:=by
  intro l;induction l with
  | nil=>intro _ _; trivial
  | cons env r ih=>
   intro hs hl;obtain ⟨hk,⟨L,o,hf,hn,ho,hd⟩,hr⟩:=hl;have hL:L ∈ X.fs:=hs L (by unfold RU; rw [cT,hf]; exact ae);obtain ⟨sl,e⟩:=I.base.slot L o ho (I.ok.frf L hL) hL fun z=>I.ok.exfs L z hL
   exact ⟨hk,⟨L,_,hf,hn,e,hd⟩,ih (fun b hb=>hs b (by unfold RU; rw [cT,hf]; exact ZW _ hb)) hr⟩
 exact all X.outer (fun _ hb=>hb) I.ok.funs
theorem Au.stack (I:Au X pins σ H s):s.heap.FunFrames X.base X.stack:=by
 rcases I.ok.stk with e | ⟨e,hf⟩
 ·rw [e]; exact I.funs
 ·rw [e];obtain ⟨m,hn,_⟩:=I.loc;refine .cons (by rw [I.ok.kind]; decide) hf hn ?_ I.funs;exact Heap.get?_none_of_le (aj I.ok.bsz I.ok.above)
theorem Au.stkSub (I:Au X pins σ H s):∀ b ∈ RU X.stack,b ∈ X.env.locals :: X.fs:=fun b hb=>by
 rcases I.ok.stk with e | ⟨e,hf⟩
 ·rw [e] at hb; exact ZW _ hb
 ·rw [e] at hb;unfold RU at hb;rw [cT,hf] at hb;exact hb
theorem Au.stkFree (I:Au X pins σ H s):∀ b ∈ RU X.stack,H b=none:=fun b hb=>by
 rcases ZF.mp (I.stkSub b hb) with e | hb
 ·rw [e]; exact I.free
 ·obtain ⟨_,o,ho,_⟩:=I.ok.funs.mem hb;exact I.base.free b o ho (I.ok.frf b hb) fun z=>I.ok.exfs b z hb
theorem Au.step {g':Array GenState} {t':Nat} {d':Drawn} {ch:List Addr} (I:Au X pins σ H s)
  (hch:∀ b ∈ ch,(b ∈ X.ex\/X.s₀.heap.objs.size<=b)/\b ≠ X.env.locals/\(∀ x c,X.env.cells.lookup x=some c->c ≠ b)/\∀ p ∈ X.pn ++ pins,p.1 ≠ b)
  (keep:∀ b o,b ≠ X.env.locals->b ∉ X.fs->b ∉ ch->s.heap.get? b=some o->H b=none->h'.get? b=some o)
  (slot:∀ b o,b ≠ X.env.locals->b ∈ X.fs->b ∉ ch->s.heap.get? b=some o->H b=none->∃ sl,h'.get? b=some { o with slots:=sl }) (free:∀ b o,b ∉ ch->s.heap.get? b=some o->H b=none->H' b=none)
  (there:∀ b o,b ∉ ch->s.heap.get? b=some o->∃ o',h'.get? b=some o')
  (tups:∀ b xs,H b=some (.tup xs)->H' b=some (.tup xs)) (frzs:∀ b o u,H b=some (.frz o u)->H' b=some (.frz o u)) (tbls:∀ b ps,H b=some (.tbl ps)->∃ more,H' b=some (.tbl (ps ++ more)))
  (ns:∀ m,s.heap.Ns X.env.locals m->h'.Ns X.env.locals m) (hok:FE X.prog X.w H' h') (hg:AllBare g') :
  Au X pins σ H' { s with heap:=h',gens:=g',drawn:=d',toks:=t' }:=by
 have neL:∀ b o,X.s₀.heap.get? b=some o->b ≠ X.env.locals:=fun b o e=>ZQ (ZX (ZK e) I.ok.above)
 have neC:∀ b o,X.s₀.heap.get? b=some o->b ∉ X.ex->b ∉ ch:=fun b o e hx hb=>by
  rcases (hch b hb).1 with z | z
  ·exact hx z
  ·exact absurd (ZX (ZK e) z) (aO _)
 have cellK:∀ x c,X.env.cells.lookup x=some c->∀ v,s.heap.IsCell c v->h'.IsCell c v:=fun x c e v ⟨o,ho,hd⟩=>by
  have nch:c ∉ ch:=fun z=>(hch c z).2.2.1 x c e rfl
  by_cases hc:c ∈ X.fs
  ·obtain ⟨sl,q⟩:=slot c o (I.cne x c e) hc nch ho (I.freeC x c e);exact ⟨_,q,hd⟩
  ·exact ⟨o,keep c o (I.cne x c e) hc nch ho (I.freeC x c e),hd⟩
 refine ⟨I.ok,I.os,hg,⟨fun b o e n hb hx=>?_,fun b o e n hb hx=>?_,fun b o e n hx=>?_,fun b o e hx=>?_,fun b xs e=>tups b xs (I.base.tups b xs e),fun b o xs e=>frzs b o xs (I.base.frzs b o xs e),fun b ps e=>?_⟩,?_,fun x c e=>?_,?_,fun x c e=>?_,fun p hp=>?_,hok,I.len⟩
 ·exact keep b o (neL b o e) hb (neC b o e hx) (I.base.keep b o e n hb hx) (I.base.free b o e n hx)
 ·obtain ⟨sl,e1⟩:=I.base.slot b o e n hb hx;obtain ⟨X1,e2⟩:=slot b _ (neL b o e) hb (neC b o e hx) e1 (I.base.free b o e n hx);exact ⟨X1,e2⟩
 ·obtain ⟨o',e1⟩:=I.base.there b o e hx;exact free b o' (neC b o e hx) e1 (I.base.free b o e n hx)
 ·obtain ⟨o',e1⟩:=I.base.there b o e hx;exact there b o' (neC b o e hx) e1
 ·obtain ⟨m1,e1⟩:=I.base.tbls b ps e;obtain ⟨m2,e2⟩:=tbls b _ e1;exact ⟨m1 ++ m2,by rw [e2,Array.append_assoc]⟩
 ·obtain ⟨m,hn,hl⟩:=I.loc;refine ⟨m,ns m hn,fun i x v e1 e2 e3=>?_⟩;obtain ⟨u,r,l⟩:=hl i x v e1 e2 e3;exists u,r;rcases l with l | ⟨k,c,e,z⟩
  ·exact .inl l
  ·exact .inr ⟨k,c,e,cellK x c e _ z⟩
 ·obtain ⟨v,z⟩:=I.cell x c e;exact ⟨v,cellK x c e v z⟩
 ·obtain ⟨m,⟨o,_,_,ho,_⟩,_⟩:=I.loc;exact free _ o (fun z=>(hch _ z).2.1 rfl) ho I.free
 ·obtain ⟨v,o,ho,hd⟩:=I.cell x c e;exact free c o (fun z=>(hch c z).2.2.1 x c e rfl) ho (I.freeC x c e)
 ·obtain ⟨e,n,ne,nf,d⟩:=I.pin p hp;have nch:p.1 ∉ ch:=fun z=>(hch p.1 z).2.2.2 p hp rfl
  exact ⟨keep p.1 p.2 ne nf nch e n,free p.1 p.2 nch e n,ne,nf,d⟩
theorem Au.un {t':Nat} (I:Au X pins σ H s) (u:Un X.fs [] H H' s.heap h') (hok:FE X.prog X.w H' h'):Au X pins σ H' { s with heap:=h',toks:=t' }:=by
 obtain ⟨m,⟨o,es,ep,ho,r⟩,_⟩:=id I.loc;obtain ⟨sl,hL⟩:=u.any ho I.free (by simp);exact I.step (g':=s.gens) (d':=s.drawn) (ch:=[]) (fun _ z=>nomatch z) (fun b o _ hb _ e n=>u.keep b o e n hb (by simp)) (fun b o _ hb _ e n=>u.slot b o e n hb (by simp)) (fun b o _ e n=>u.free b o e n (by simp)) (fun b o _ e=>u.there b o e (by simp)) u.tups u.frzs u.tbls (fun m' hm=>by
  obtain ⟨o',Yk,Uz,Im,r'⟩:=hm;rw [ho] at Im; cases Im;exact ⟨_,Yk,Uz,hL,r'⟩) hok I.bare
theorem Au.call {g':Array GenState} {t':Nat} {d':Drawn} {ch:List Addr} (I:Au X pins σ H s) (u:Un (RU X.stack) ch H H' s.heap h') (hok:FE X.prog X.w H' h') (hg:AllBare g')
  (hch:∀ b ∈ ch,(b ∈ X.ex\/X.s₀.heap.objs.size<=b)/\b ≠ X.env.locals/\(∀ x c,X.env.cells.lookup x=some c->c ≠ b)/\∀ p ∈ X.pn ++ pins,p.1 ≠ b) :
  Au X pins σ H' { s with heap:=h',gens:=g',drawn:=d',toks:=t' }:=by
 obtain ⟨m,⟨o,es,ep,ho,r⟩,_⟩:=id I.loc;obtain ⟨sl,hL⟩:=u.any ho I.free fun z=>(hch _ z).2.1 rfl
 exact I.step (ch:=ch) hch (fun b o hL hb hc e n=>u.keep b o e n (fun z=>(ZF.mp (I.stkSub b z)).elim hL hb) hc) (fun b o _ _ hc e n=>u.any e n hc) (fun b o hc e n=>u.free b o e n hc) (fun b o hc e=>u.there b o e hc) u.tups u.frzs u.tbls (fun m' hm=>by
  obtain ⟨o',Yk,Uz,Im,r'⟩:=hm;rw [ho] at Im; cases Im;exact ⟨_,Yk,Uz,hL,r'⟩) hok hg
theorem Au.turned {t':Nat} {it:Addr} (I:Au X pins σ H s) (k:∀ b o,b ≠ it->s.heap.get? b=some o->h'.get? b=some o) (hn:H it=none) (hL:it ≠ X.env.locals)
  (h1:it ∈ X.ex\/X.s₀.heap.objs.size<=it) (h2:∀ x c,X.env.cells.lookup x=some c->c ≠ it) (h3:∀ p ∈ X.pn ++ pins,p.1 ≠ it):Au X pins σ H { s with heap:=h',toks:=t' }:=by
 have nit:∀ b u,H b=some u->b ≠ it:=fun b u e z=>by rw [z,hn] at e; cases e
 refine I.step (g':=s.gens) (d':=s.drawn) (ch:=[it]) (fun b hb=>?_) (fun b o _ _ hc e _=>k b o (fun z=>hc (by simp [z])) e) (fun b o _ _ hc e _=>⟨o.slots,k b o (fun z=>hc (by simp [z])) e⟩) (fun _ _ _ _ n=>n)
  (fun b o hc e=>⟨o,k b o (fun z=>hc (by simp [z])) e⟩) (fun _ _ e=>e) (fun _ _ _ e=>e) (fun b ps e=>⟨#[],by rw [e]; simp⟩) (fun m hm=>?_) (fun b u e=>?_) I.bare
 ·have e:b=it:=by simpa using hb
  subst e;exact ⟨h1,hL,h2,h3⟩
 ·obtain ⟨o,es,ep,ho,r⟩:=hm;exact ⟨o,es,ep,k _ o (Ne.symm hL) ho,r⟩
 ·refine (I.hok b u e).stay (fun c v hc q=>k c v ?_ q) (fun _ q=>q) fun _ _ q=>q
  rcases hc with z | z
  ·rw [z]; exact nit b u e
  ·exact nit c _ z
theorem Au.tok (I:Au X pins σ H s) (t:Nat):Au X pins σ H { s with toks:=t }:=I.un (h':=s.heap) (t':=t) Un.refl I.hok
theorem Au.kept {t':Nat} (I:Au X pins σ H s) (k:∀ b u,s.heap.get? b=some u->h'.get? b=some u):Au X pins σ H { s with heap:=h',toks:=t' }:=I.un (Un.kept k) (I.hok.kept k)
theorem Au.laid {a:Addr} {o:HO} {t':Nat} (I:Au X pins σ H s) (k:∀ b u,s.heap.get? b=some u->h'.get? b=some u) (hp:s.heap.objs.size<=a) (new:AV X.prog X.w (upd H a o) h' a o) :
  Au X pins σ (upd H a o) { s with heap:=h',toks:=t' }:=I.un (Un.laid k hp (I.hok.fresh hp)) (I.hok.laid k hp new)
theorem Au.write {x e:Addr} {o:HO} {t':Nat} (I:Au X pins σ H s) (mu:Mut (H x)) (he:e=x\/H e=some (.own x)) (k:∀ b u,b ≠ e->s.heap.get? b=some u->h'.get? b=some u) (heo:∃ u,h'.get? e=some u)
  (new:AV X.prog X.w (upd H x o) h' x o):Au X pins σ (upd H x o) { s with heap:=h',toks:=t' }:=I.un (Un.write mu he k heo) (I.hok.write mu he k heo new)
theorem Au.pins_of {Ue:List (Addr × Obj)} (I:Au X pins σ H s) (h:∀ p ∈ Ue,s.heap.get? p.1=some p.2/\H p.1=none/\p.1 ≠ X.env.locals/\p.1 ∉ X.fs/\∀ v,p.2.data ≠ .cell v):Au X Ue σ H s:=
 ⟨I.ok,I.os,I.bare,I.base,I.loc,I.cell,I.free,I.freeC,fun p hp=>(af.mp hp).elim (fun z=>I.pin p (aT _ z)) (h p),I.hok,I.len⟩
theorem IY {N:List Str} (hN:N.Nodup) {i j:Nat} {x:Str} (a:N[i]? = some x) (b:N[j]? = some x):i=j:=by
 obtain ⟨h1,e1⟩:=ZN.mp a;obtain ⟨h2,e2⟩:=ZN.mp b;exact (fg hN).mp (e1.trans e2.symm)
theorem Gw {M:Model} {A:Around} {E:Value->Shared->Prop} {i:Nat} {x:Str} {v:V} {u:Value} {Q:Unit->Shared->Prop} (I:Au X pins σ H s) (hN:X.N.Nodup) (hi:X.N[i]? = some x) (hx:Wh X.env.scope x) (r:AM v u)
  (h:∀ s',Au X pins (σ.set i (some v)) H s'->(∃ a,Heap.SameBut a s.heap s'.heap/\(a=X.env.locals\/X.env.cells.lookup x=some a))->Q () s') (hf:X.fn x=true\/X.env.scope.names.lookup x=some .local:=by first | exact .inl rfl | exact .inr rfl | assumption):wpAny M A (storeName X.env x u) Q E s:=by
 obtain ⟨m,hn,hl⟩:=id I.loc;have hcls:(X.env.scope.kind == .class || (X.env.scope.kind == .module && X.env.locals != X.env.globals))=false:=by rw [I.ok.kind]; rfl
 have hiσ:i < σ.length:=by rw [I.len]; exact (ZN.mp hi).1
 have cne:=I.cne;have tracked:∀ {a:Addr} {h':Heap},(∃ o,s.heap.get? a=some o/\H a=none)->Heap.SameBut a s.heap h'->FE X.prog X.w H h':=fun {a h'} ha hs b ob e=>by
  obtain ⟨_,_,hfree⟩:=ha;refine (I.hok b ob e).stay (fun c w' hc q=>(hs.2 c ?_).trans q) (fun _ q=>q) fun _ _ q=>q
  rintro rfl;rcases hc with rfl | hc
  ·rw [hfree] at e; cases e
  ·rw [hfree] at hc; cases hc
 rcases hx with hk | hk
 ·refine wpAny_storeName_local hk hn (fun h' Yc hs=>?_) hcls;obtain ⟨oL,_,_,hoL,_⟩:=id hn;refine h _ ⟨I.ok,I.os,I.bare,⟨fun b o e n hb hx=>?_,fun b o e n hb hx=>?_,I.base.free,fun b o e hx=>?_,I.base.tups,I.base.frzs,I.base.tbls⟩,⟨_,Yc,fun j y v' e1 e2 e3=>?_⟩,fun y c e=>?_,I.free,I.freeC,fun p hp=>?_,tracked ⟨oL,hoL,I.free⟩ hs,by simpa using I.len⟩ ⟨_,hs,.inl rfl⟩
  ·exact (hs.2 b (ZQ (ZX (ZK e) I.ok.above))).trans (I.base.keep b o e n hb hx)
  ·obtain ⟨sl,e1⟩:=I.base.slot b o e n hb hx;exact ⟨sl,(hs.2 b (ZQ (ZX (ZK e) I.ok.above))).trans e1⟩
  ·obtain ⟨o',e1⟩:=I.base.there b o e hx;exact ⟨o',(hs.2 b (ZQ (ZX (ZK e) I.ok.above))).trans e1⟩
  ·by_cases hj:j=i
   ·subst hj;rw [hi] at e1; cases e1;rw [cB hiσ] at e2;cases e2
    exact ⟨u,r,.inl ⟨hk,by simp⟩⟩
   ·rw [eC (Ne.symm hj)] at e2;obtain ⟨u',r',q⟩:=hl j y v' e1 e2 e3;exists u',r';rcases q with ⟨k,e⟩ | ⟨k,c,e,z⟩
    ·refine .inl ⟨k,?_⟩;have:y ≠ x:=fun e=>hj (IY hN e1 (e ▸ hi))
     simp [this,e]
    ·exact .inr ⟨k,c,e,z.sameBut hs (cne y c e)⟩
  ·obtain ⟨w',z⟩:=I.cell y c e;exact ⟨w',z.sameBut hs (cne y c e)⟩
  ·obtain ⟨e,n,ne,nf,d⟩:=I.pin p hp;exact ⟨(hs.2 p.1 ne).trans e,n,ne,nf,d⟩
 ·have hfn:X.fn x=true:=by
   rcases hf with z | z
   ·exact z
   ·rw [z] at hk; cases hk
  obtain ⟨c,hc⟩:=I.ok.has x (.inl hk);obtain ⟨w',z⟩:=I.cell x c hc;refine wpAny_storeName_cell I.ok.kind hk hc z (fun h' K0 hs=>?_);obtain ⟨oc,hoc,hocd⟩:=id z;refine h { s with heap:=h' } ⟨I.ok,I.os,I.bare,⟨fun b o e n hb hx=>?_,fun b o e n hb hx=>?_,I.base.free,fun b o e hx=>?_,I.base.tups,I.base.frzs,I.base.tbls⟩,⟨m,hn.sameBut hs (Ne.symm (cne x c hc)),fun j y v' e1 e2 e3=>?_⟩,fun y c' e=>?_,I.free,I.freeC,fun p hp=>?_,tracked ⟨oc,hoc,I.freeC x c hc⟩ hs,by simpa using I.len⟩ ⟨c,hs,.inr hc⟩
  ·exact (hs.2 b (ZQ (ZX (ZK e) (I.ok.cab x c hfn hc)))).trans (I.base.keep b o e n hb hx)
  ·obtain ⟨sl,e1⟩:=I.base.slot b o e n hb hx;exact ⟨sl,(hs.2 b (ZQ (ZX (ZK e) (I.ok.cab x c hfn hc)))).trans e1⟩
  ·obtain ⟨o',e1⟩:=I.base.there b o e hx;exact ⟨o',(hs.2 b (ZQ (ZX (ZK e) (I.ok.cab x c hfn hc)))).trans e1⟩
  ·by_cases hj:j=i
   ·subst hj;rw [hi] at e1; cases e1;rw [cB hiσ] at e2;cases e2
    exact ⟨u,r,.inr ⟨.inl hk,c,hc,K0⟩⟩
   ·rw [eC (Ne.symm hj)] at e2;obtain ⟨u',r',q⟩:=hl j y v' e1 e2 e3;exists u',r';rcases q with q | ⟨k,c',e,z'⟩
    ·exact .inl q
    ·refine .inr ⟨k,c',e,z'.sameBut hs ?_⟩;rintro rfl;exact hj (IY hN e1 (I.ok.inj _ _ _ e hc ▸ hi))
  ·by_cases hcc:c'=c
   ·subst hcc; exact ⟨_,K0⟩
   ·obtain ⟨w2,z2⟩:=I.cell y c' e;exact ⟨w2,z2.sameBut hs hcc⟩
  ·obtain ⟨e,n,ne,nf,d⟩:=I.pin p hp;refine ⟨(hs.2 p.1 ?_).trans e,n,ne,nf,d⟩;intro q;rw [q,hoc] at e;have q':oc=p.2:=ZZ.inj e;exact d w' (by rw [<-q']; exact hocd)
theorem LQ {M:Model} {A:Around} {E:Value->Shared->Prop} {i:Nat} {x:Str} {v:V} {u:Value} {Q:Unit->Shared->Prop} (I:Au X pins σ H s) (hN:X.N.Nodup) (hi:X.N[i]? = some x) (hx:Wh X.env.scope x) (r:AM v u)
  (h:∀ s',Au X pins (σ.set i (some v)) H s'->Q () s') (hf:X.fn x=true\/X.env.scope.names.lookup x=some .local:=by first | exact .inl rfl | exact .inr rfl | assumption):wpAny M A (storeName X.env x u) Q E s:=
 Gw I hN hi hx r (fun s' I' _=>h s' I') hf
theorem Au.call' {s':Shared} {ch:List Addr} (I:Au X pins σ H s) (ho:s'.os=s.os) (u:Un (RU X.stack) ch H H' s.heap s'.heap) (hok:FE X.prog X.w H' s'.heap) (hg:AllBare s'.gens)
  (hch:∀ b ∈ ch,(b ∈ X.ex\/X.s₀.heap.objs.size<=b)/\b ≠ X.env.locals/\(∀ x c,X.env.cells.lookup x=some c->c ≠ b)/\∀ p ∈ X.pn ++ pins,p.1 ≠ b):Au X pins σ H' s':=by
 obtain ⟨h',g',d',t',o'⟩:=s';have e:o'=s.os:=ho;subst e;exact I.call (g':=g') (t':=t') (d':=d') u hok hg hch
end
abbrev XK:=Value->Option Addr->Hp->Prop
abbrev St:=List (Option V)
abbrev VK:=V->Hp->Prop
abbrev TE:=St->Hp->VK->Prop
abbrev TT:=St->Hp->(Bool->Hp->Prop)->Prop
abbrev TA:=St->Hp->(List V->Hp->Prop)->Prop
structure Gs where
 nx:St->Hp->Prop
 rt:VK
 bk:St->Hp->Prop:=fun _ _=>False
 ct:St->Hp->Prop:=fun _ _=>False
abbrev TS:=Gs->St->Hp->Prop
def EP (X:Cx) (pins:List (Addr × Obj)) (σ:St) (Q:VK) (u:Value) (s':Shared):Prop:=∃ v H',Au X pins σ H' s'/\AM v u/\Q v H'
def TP (X:Cx) (pins:List (Addr × Obj)) (σ:St) (Q:Bool->Hp->Prop) (b:Bool) (s':Shared):Prop:=∃ H',Au X pins σ H' s'/\Q b H'
def AP (X:Cx) (pins:List (Addr × Obj)) (σ:St) (Q:List V->Hp->Prop) (us:List Value) (s':Shared):Prop:=∃ vs H',Au X pins σ H' s'/\AF vs us/\Q vs H'
def SP (X:Cx) (pins:List (Addr × Obj)) (D:Gs) (f:Flow) (s':Shared):Prop:=
 match f with
 | .next=>∃ Aw H',Au X pins Aw H' s'/\D.nx Aw H'
 | .brk=>∃ Aw H',Au X pins Aw H' s'/\D.bk Aw H'
 | .cont=>∃ Aw H',Au X pins Aw H' s'/\D.ct Aw H'
 | .ret u=>∃ v Aw H',Au X pins Aw H' s'/\AM v u/\D.rt v H'
def PE (X:Cx) (e:Expr) (t:TE):Prop:=
 ∀ (pins:List (Addr × Obj)) (s:Shared) (σ:St) (H:Hp) (Q:VK),Au X pins σ H s->t σ H Q->wpAny (model X.prog X.w) X.A (eval e X.env) (EP X pins σ Q) X.xe s
def PT (X:Cx) (e:Expr) (t:TT):Prop:=
 ∀ (pins:List (Addr × Obj)) (s:Shared) (σ:St) (H:Hp) (Q:Bool->Hp->Prop),Au X pins σ H s->t σ H Q->wpAny (model X.prog X.w) X.A (isTrue e X.env (eval e X.env)) (TP X pins σ Q) X.xe s
def PW (X:Cx) (e:Expr) (t:TT):Prop:=
 ∀ (whole:Sem Value) (pins:List (Addr × Obj)) (s:Shared) (σ:St) (H:Hp) (Q:Bool->Hp->Prop),Au X pins σ H s->t σ H Q->wpAny (model X.prog X.w) X.A (isTrue e X.env whole) (TP X pins σ Q) X.xe s
theorem PW.pt {X:Cx} {e:Expr} {t:TT} (h:PW X e t):PT X e t:=h _
def PA (X:Cx) (es:List Expr) (t:TA):Prop:=
 ∀ (pos:Pos) (pins:List (Addr × Obj)) (s:Shared) (σ:St) (H:Hp) (Q:List V->Hp->Prop),Au X pins σ H s->t σ H Q->wpAny (model X.prog X.w) X.A (spliced (backTo pos (starEach es X.env))) (AP X pins σ Q) X.xe s
def PS (X:Cx) (st:Stmt) (t:TS):Prop:=
 ∀ (pins:List (Addr × Obj)) (s:Shared) (σ:St) (H:Hp) (D:Gs),Au X pins σ H s->t D σ H->wpAny (model X.prog X.w) X.A (exec st X.env) (SP X pins D) X.xe s
def OP (X:Cx) (st:List Stmt) (t:TS):Prop:=
 ∀ (pins:List (Addr × Obj)) (s:Shared) (σ:St) (H:Hp) (D:Gs),Au X pins σ H s->t D σ H->wpAny (model X.prog X.w) X.A (execs st X.env) (SP X pins D) X.xe s
theorem B0 {α:Type} {t:Sem α} {Q Q':α->Shared->Prop} {M:Model} {A:Around} {E:Value->Shared->Prop} {s:Shared} (h:wpAny M A t Q E s) (hQ:∀ a s,Q a s->Q' a s):wpAny M A t Q' E s:=wpAny_mono h hQ fun _ _ x=>x
section
variable {X:Cx}
def S6 (i:Nat):TE:=fun σ H Q=>∃ v,σ[i]? = some (some v)/\Q v H
def tC (v:V):TE:=fun _ H Q=>Q v H
theorem Vf {i:Nat} {x:Str} {pos:Pos} (hN:X.N[i]? = some x) (hv:Vis X.env.scope x) (hd:(x == ("__debug__":Str))=false:=by decide) (hcd:(x == ("__classdict__":Str))=false:=by decide):PE X (.Name x pos) (S6 i):=by
 intro pins s σ H Q I h;obtain ⟨v,e,h⟩:=h;obtain ⟨m,hn,hl⟩:=I.loc;obtain ⟨u,r,l⟩:=hl i x v hN e hv;have fin:EP X pins σ Q u s:=⟨v,H,I,r,h⟩
 rcases l with ⟨hk,hm⟩ | ⟨hk,c,hc,hcell⟩
 ·exact wpAny_Name (wpAny_loadName_local I.ok.kind hk hn hm fin) hd
 ·rcases hk with hk | hk
  ·exact wpAny_Name (wpAny_loadName_cell I.ok.kind hk hc hcell fin) hd
  ·exact wpAny_Name (wpAny_loadName_free I.ok.kind hk hc hcell fin hcd) hd
theorem Ag {i j pos}:PE X (.Constant (.int i) j pos) (tC (.int i)):=fun _ _ _ H _ I h=>wpAny_Constant_int ⟨.int i,H,I.tok _,⟨_,rfl⟩,h⟩
theorem E4 {b j pos}:PE X (.Constant (.bool b) j pos) (tC (.bl b)):=fun _ _ _ H _ I h=>Constant_bool ⟨.bl b,H,I,rfl,h⟩
theorem R0 {j pos}:PE X (.Constant .none j pos) (tC .non):=fun _ _ _ H _ I h=>Constant_none ⟨.non,H,I,rfl,h⟩
theorem IS {x j pos}:PE X (.Constant (.str x) j pos) (tC (.str x)):=fun _ _ _ H _ I h=>Calls.Constant_str ⟨.str x,H,I.tok _,⟨_,rfl⟩,h⟩
def Gl (X:Cx) (x:Str):Prop:=X.env.kindOf x=some .globalImplicit
theorem OE {E:Value->Shared->Prop} {pins:List (Addr × Obj)} {s:Shared} {σ:St} {H:Hp} {x:Str} {u:Value} {pos:Pos} {Q:Value->Shared->Prop} (I:Au X pins σ H s) (hg:Gl X x) (hm:X.mg x=some u) (h:Q u s)
  (hd:(x == ("__debug__":Str))=false:=by decide):wpAny (model X.prog X.w) X.A (eval (.Name x pos) X.env) Q E s:=
 Calls.Name_function_global I.ok.kind hg (Calls.loadGlobal_global (by rw [I.ok.glob]; exact I.mod.glob.keeps I.bk) hm h) hd
theorem GK {E:Value->Shared->Prop} {pins:List (Addr × Obj)} {s:Shared} {σ:St} {H:Hp} {x:Str} {u:Value} {pos:Pos} {Q:Value->Shared->Prop} (I:Au X pins σ H s) (hg:Gl X x) (hm:X.mg x=none) (hv:bootBuiltins x=some u) (h:Q u s)
  (hn:x ≠ "__name__":=by decide) (hd:(x == ("__debug__":Str))=false:=by decide):wpAny (model X.prog X.w) X.A (eval (.Name x pos) X.env) Q E s:=by
 obtain ⟨mb,h1,h2⟩:=I.mod.blt;exact Calls.Name_function_global I.ok.kind hg (Calls.loadGlobal_builtin (by rw [I.ok.glob]; exact I.mod.glob.keeps I.bk) hm (by rw [I.ok.blt]; exact h1.keeps I.bk) ((h2 x hn).trans hv) h) hd
theorem SQ {x:Str} {v:V} {u:Value} {pos:Pos} (hg:Gl X x) (hm:X.mg x=some u) (r:AM v u) (hd:(x == ("__debug__":Str))=false:=by decide):PE X (.Name x pos) (tC v):=
 fun _ _ _ H _ I h=>OE I hg hm ⟨v,H,I,r,h⟩ hd
theorem Dd {x:Str} {v:V} {u:Value} {pos:Pos} (hg:Gl X x) (hm:X.mg x=none) (hv:bootBuiltins x=some u) (r:AM v u) (hn:x ≠ "__name__":=by decide) (hd:(x == ("__debug__":Str))=false:=by decide):PE X (.Name x pos) (tC v):=
 fun _ _ _ H _ I h=>GK I hg hm hv ⟨v,H,I,r,h⟩ hn hd
variable {a b:Expr} {ta tb:TE} {pos:Pos}
def PC (X:Cx) (op:CmpOp) (a b:Expr) (t:TE):Prop:=
 ∀ (pins:List (Addr × Obj)) (s:Shared) (σ:St) (H:Hp) (Q:VK),Au X pins σ H s->t σ H Q ->
  wpAny (model X.prog X.w) X.A (eval a X.env) (fun v Bc=>wpAny (model X.prog X.w) X.A (eval b X.env) (fun u E7=>wpAny (model X.prog X.w) X.A (compareOp op v u) (EP X pins σ Q) X.xe E7) X.xe Bc) X.xe s
theorem Mw (b:Expr) {op:CmpOp} (h:op ≠ .In) (h2:op ≠ .NotIn):behindInMarks op b=false:=by
 have e1:(op == CmpOp.In)=false:=by cases op <;> first | rfl | exact absurd rfl h
 have e2:(op == CmpOp.NotIn)=false:=by cases op <;> first | rfl | exact absurd rfl h2
 cases b <;> simp [behindInMarks,e1,e2]
def tIsN (ta:TE):TE:=fun σ H Q=>ta σ H fun x H1=>Q (.bl (decide (x=.non))) H1
def tNotN (ta:TE):TE:=fun σ H Q=>ta σ H fun x H1=>Q (.bl (!decide (x=.non))) H1
theorem AM.none_iff {x:V} {v:Value} (r:AM x v):(v == Value.none)=decide (x=.non):=by
 cases x with
 | non=>cases r; rfl
 | bl _=>cases r; rfl
 | int _=>obtain ⟨t,rfl⟩:=r; rfl
 | str _=>obtain ⟨t,rfl⟩:=r; rfl
 | byt _=>obtain ⟨t,rfl⟩:=r; rfl
 | flt _=>obtain ⟨t,rfl⟩:=r; rfl
 | ref _=>cases r; rfl
 | ty _=>cases r; rfl
theorem G4 {j pos'} (ha:PE X a ta):PC X .Is a (.Constant .none j pos') (tIsN ta):=by
 intro pins s σ H Q I h;refine B0 (ha pins s σ H _ I h) fun v s1 ⟨x,H1,I1,r1,q1⟩=>?_
 exact Constant_none (is_none_gen ⟨.bl _,H1,I1,by rw [r1.none_iff]; rfl,q1⟩)
theorem Ih {j pos'} (ha:PE X a ta):PC X .IsNot a (.Constant .none j pos') (tNotN ta):=by
 intro pins s σ H Q I h;refine B0 (ha pins s σ H _ I h) fun v s1 ⟨x,H1,I1,r1,q1⟩=>?_
 exact Constant_none (isnot_none_gen ⟨.bl _,H1,I1,by rw [r1.none_iff]; rfl,q1⟩)
def tB (t:TE):TT:=fun σ H Q=>t σ H fun x H1=>∃ c,x=.bl c/\Q c H1
theorem IU {op:CmpOp} {t:TE} (h:PC X op a b t) (h1:behindInMarks op b=false:=by first | exact Mw _ (by decide) (by decide) | rfl):PE X (.Compare a [op] [b] pos) t:=fun pins s σ H Q I hw=>wpAny_Compare1 (h pins s σ H Q I hw) h1
theorem F3 {op:CmpOp} {t:TE} (h:PC X op a b t) (h1:behindInMarks op b=false:=by first | exact Mw _ (by decide) (by decide) | rfl):PT X (.Compare a [op] [b] pos) (tB t):=by
 intro pins s σ H Q I hw;refine wpAny_isTrue_Compare1 (B0 (h pins s σ H _ I hw) fun v s1 h1=>B0 h1 fun u s2 h2=>B0 h2 fun c s3 ⟨x,H1,I1,r1,q1⟩=>?_) h1;obtain ⟨d,rfl,q⟩:=q1;cases r1
 exact wpAny_truthy_bool ⟨H1,I1,q⟩
theorem EI {e:Expr} {t:TE} (h:PE X e t) (he:∀ whole,isTrue e X.env whole=(do let v <- whole; standAt e.pos; holding [v] (truthy v)):=by intro _; rfl):PT X e (tB t):=by
 intro pins s σ H Q I hw;refine isTrue_plain (B0 (h pins s σ H _ I hw) fun v s1 ⟨x,H1,I1,r1,q1⟩=>?_) (he _);obtain ⟨d,rfl,q⟩:=q1;cases r1
 exact wpAny_truthy_bool ⟨H1,I1,q⟩
variable {tA Xz:TT} {rest:List Expr}
def tAnd (t u:TT):TT:=fun σ H Q=>t σ H fun c H1=>if c=true then u σ H1 Q else Q false H1
def tOr (t u:TT):TT:=fun σ H Q=>t σ H fun c H1=>if c=true then Q true H1 else u σ H1 Q
def tNot (t:TT):TT:=fun σ H Q=>t σ H fun c H1=>Q (!c) H1
theorem O2 (ha:PT X a tA):PW X (.BoolOp .And [a] pos) tA:=by
 intro wh pins s σ H Q I h;refine isTrue_and (B0 (ha pins s σ H Q I h) fun c s1 e=>?_);cases c with
 | true=>exact isTrue_and_nil e
 | false=>exact e
theorem EH (ha:PT X a tA):PW X (.BoolOp .Or [a] pos) tA:=by
 intro wh pins s σ H Q I h;refine isTrue_or (B0 (ha pins s σ H Q I h) fun c s1 e=>?_);cases c with
 | false=>exact isTrue_or_nil e
 | true=>exact e
theorem Nr (ha:PT X a tA) (hb:PW X (.BoolOp .And (b :: rest) pos) Xz):PW X (.BoolOp .And (a :: b :: rest) pos) (tAnd tA Xz):=by
 intro wh pins s σ H Q I h;refine isTrue_and (B0 (ha pins s σ H _ I h) fun c s1 ⟨H1,I1,q1⟩=>?_);cases c with
 | true=>exact hb wh pins s1 σ H1 Q I1 q1
 | false=>exact ⟨H1,I1,q1⟩
theorem Hr (ha:PT X a tA) (hb:PW X (.BoolOp .Or (b :: rest) pos) Xz):PW X (.BoolOp .Or (a :: b :: rest) pos) (tOr tA Xz):=by
 intro wh pins s σ H Q I h;refine isTrue_or (B0 (ha pins s σ H _ I h) fun c s1 ⟨H1,I1,q1⟩=>?_);cases c with
 | true=>exact ⟨H1,I1,q1⟩
 | false=>exact hb wh pins s1 σ H1 Q I1 q1
theorem DJ (ha:PT X a tA):PT X (.UnaryOp .Not a pos) (tNot tA):=by
 intro pins s σ H Q I h;exact isTrue_not (ha pins s σ H (fun c H1=>Q (!c) H1) I h)
def tAndV (ta tb:TE):TE:=fun σ H Q=>ta σ H fun x H1=>∃ c,x=.bl c/\if c=true then tb σ H1 Q else Q (.bl false) H1
def tOrV (ta tb:TE):TE:=fun σ H Q=>ta σ H fun x H1=>∃ c,x=.bl c/\if c=true then Q (.bl true) H1 else tb σ H1 Q
def tNotV (ta:TE):TE:=fun σ H Q=>ta σ H fun x H1=>∃ c,x=.bl c/\Q (.bl (!c)) H1
theorem Dt {op} {t:TE} (h:PE X a t):PE X (.BoolOp op [a] pos) t:=fun pins s σ H Q I hw=>BoolOp_one (h pins s σ H Q I hw)
theorem C1 (ha:PE X a ta) (hb:PE X (.BoolOp .And (b :: rest) pos) tb):PE X (.BoolOp .And (a :: b :: rest) pos) (tAndV ta tb):=by
 intro pins s σ H Q I h;refine BoolOp_and (B0 (ha pins s σ H _ I h) fun v s1 ⟨x,H1,I1,r1,q1⟩=>?_);obtain ⟨c,rfl,q1⟩:=q1;cases r1
 refine wpAny_truthy_bool ?_;cases c with
 | true=>exact hb pins s1 σ H1 Q I1 q1
 | false=>exact ⟨.bl false,H1,I1,rfl,q1⟩
theorem pe_or (ha:PE X a ta) (hb:PE X (.BoolOp .Or (b :: rest) pos) tb):PE X (.BoolOp .Or (a :: b :: rest) pos) (tOrV ta tb):=by
 intro pins s σ H Q I h;refine BoolOp_or (B0 (ha pins s σ H _ I h) fun v s1 ⟨x,H1,I1,r1,q1⟩=>?_);obtain ⟨c,rfl,q1⟩:=q1;cases r1
 refine wpAny_truthy_bool ?_;cases c with
 | false=>exact hb pins s1 σ H1 Q I1 q1
 | true=>exact ⟨.bl true,H1,I1,rfl,q1⟩
theorem Vg (ha:PE X a ta):PE X (.UnaryOp .Not a pos) (tNotV ta):=by
 intro pins s σ H Q I h;refine UnaryOp_ (B0 (ha pins s σ H _ I h) fun v s1 ⟨x,H1,I1,r1,q1⟩=>?_);obtain ⟨c,rfl,q1⟩:=q1;cases r1
 exact not_of (wpAny_truthy_bool ⟨.bl (!c),H1,I1,rfl,q1⟩)
def tIf (t:TT) (ta tb:TE):TE:=fun σ H Q=>t σ H fun c H1=>if c=true then ta σ H1 Q else tb σ H1 Q
theorem Mk {c:Expr} (hc:PT X c tA) (ha:PE X a ta) (hb:PE X b tb):PE X (.IfExp c a b pos) (tIf tA ta tb):=by
 intro pins s σ H Q I h;refine wpAny_IfExp (B0 (hc pins s σ H _ I h) fun d s1 ⟨H1,I1,q1⟩=>?_);cases d with
 | true=>exact ha pins s1 σ H1 Q I1 q1
 | false=>exact hb pins s1 σ H1 Q I1 q1
end
def AZ (K:ZD) (H:Hp) (a:Addr) (xs:List V):Prop:=
 Rd H a (.lst xs) \/
  ∃ (o:Obj) (Av:Array Value) (n:Nat),K.lookup a=some o/\o.cls=.type "list"/\o.dict=none/\o.data=.seq Av n/\Av.size<=sizeLine/\AF xs Av.toList
def Ay (K:ZD) (H:Hp) (a:Addr) (xs:List V):Prop:=
 Rd H a (.tup xs) \/
  ∃ (o:Obj) (Av:Array Value) (n:Nat),K.lookup a=some o/\o.cls=.type "tuple"/\o.data=.seq Av n/\Av.size<=sizeLine/\AF xs Av.toList
def absV:Value->Option V
 | .none=>some .non
 | .bool b=>some (.bl b)
 | .int i _=>some (.int i)
 | .str x _=>some (.str x)
 | .bytes b _=>some (.byt b)
 | .float b _=>some (.flt b)
 | .ref a=>some (.ref a)
 | .type n=>some (.ty n)
 | _=>none
theorem AM.abs {x:V} {u:Value} (r:AM x u):absV u=some x:=by
 cases x with
 | non=>cases r; rfl
 | bl _=>cases r; rfl
 | int _=>obtain ⟨t,rfl⟩:=r; rfl
 | str _=>obtain ⟨t,rfl⟩:=r; rfl
 | byt _=>obtain ⟨t,rfl⟩:=r; rfl
 | flt _=>obtain ⟨t,rfl⟩:=r; rfl
 | ref _=>cases r; rfl
 | ty _=>cases r; rfl
theorem AM.inj {x y:V} {u:Value} (r:AM x u) (q:AM y u):x=y:=ZZ.inj (r.abs.symm.trans q.abs)
theorem AF.inj:∀ {xs ys:List V} {us:List Value},AF xs us->AF ys us->xs=ys
 | _,_,_,.nil,.nil=>rfl
 | _,_,_,.cons r t,.cons r' t'=>by rw [r.inj r',AF.inj t t']
section
variable {X:Cx} {pins:List (Addr × Obj)} {σ:St} {H:Hp} {s:Shared} {a:Addr} {xs ys:List V}
theorem AZ.of {K:ZD} (h:H a=some (.lst xs)):AZ K H a xs:=.inl (.inl h)
theorem Ay.of {K:ZD} (h:H a=some (.tup xs)):Ay K H a xs:=.inl (.inl h)
theorem Au.list (I:Au X pins σ H s) (h:AZ X.K H a xs):∃ Av:List Value,AF xs Av/\PlainL s.heap a Av.toArray/\xs.length<=sizeLine:=by
 rcases h with h | ⟨o,Av,n,hk,hc,hd,hs,hz,r⟩
 ·obtain ⟨z,Av,n,r,e⟩:=h.ok I.hok;exact ⟨Av,r,⟨_,n,e,rfl,rfl,rfl⟩,z⟩
 ·exists Av.toList,r,⟨o,n,I.kIn a o hk,hc,hd,by simpa using hs⟩
  have e:=r.length;simp only [ag] at e;lia
theorem Au.tuple (I:Au X pins σ H s) (h:Ay X.K H a xs):∃ Av:List Value,AF xs Av/\IsTup s.heap a Av.toArray/\xs.length<=sizeLine:=by
 rcases h with h | ⟨o,Av,n,hk,hc,hs,hz,r⟩
 ·obtain ⟨z,Av,r,p,_⟩:=h.ok I.hok;exact ⟨Av,r,p,z⟩
 ·exists Av.toList,r,⟨o,I.kIn a o hk,hc,n,by simpa using hs⟩
  have e:=r.length;simp only [ag] at e;lia
theorem Au.list_inj (I:Au X pins σ H s) (h:AZ X.K H a xs) (h':AZ X.K H a ys):xs=ys:=by
 obtain ⟨Av,r,⟨o,n,e,_,_,d⟩,_⟩:=I.list h;obtain ⟨its',r',⟨o',n',e',_,_,d'⟩,_⟩:=I.list h';rw [e] at e'; cases e';rw [d] at d';injection d' with d1 _;have:Av=its':=by simpa using congrArg cA d1
 subst this;exact r.inj r'
theorem Au.tuple_inj (I:Au X pins σ H s) (h:Ay X.K H a xs) (h':Ay X.K H a ys):xs=ys:=by
 obtain ⟨Av,r,⟨o,e,_,n,d⟩,_⟩:=I.tuple h;obtain ⟨its',r',⟨o',e',_,n',d'⟩,_⟩:=I.tuple h';rw [e] at e'; cases e';rw [d] at d';injection d' with d1 _;have:Av=its':=by simpa using congrArg cA d1
 subst this;exact r.inj r'
end
abbrev Cx.wish (X:Cx) (E:Value->Shared->Prop):Cx:={ X with xe:=E }
abbrev Cx.nox (X:Cx):Cx:=X.wish fun _ _=>False
theorem Cx.Ok.wish {X:Cx} (ok:X.Ok) (E:Value->Shared->Prop):(X.wish E).Ok:=
 ⟨ok.mod,ok.kind,ok.glob,ok.blt,ok.above,ok.inj,ok.has,ok.cab,ok.hd,ok.frames,ok.stk,ok.exf,ok.bs,ok.bsz,ok.noex,ok.exfs,ok.funs,ok.frf⟩
theorem Cx.Ok.unwish {X:Cx} {E:Value->Shared->Prop} (ok:(X.wish E).Ok):X.Ok:=
 ⟨ok.mod,ok.kind,ok.glob,ok.blt,ok.above,ok.inj,ok.has,ok.cab,ok.hd,ok.frames,ok.stk,ok.exf,ok.bs,ok.bsz,ok.noex,ok.exfs,ok.funs,ok.frf⟩
section
variable {X:Cx} {pins:List (Addr × Obj)} {σ:St} {H:Hp} {s:Shared} {E:Value->Shared->Prop}
theorem Au.wish (I:Au X pins σ H s) (E:Value->Shared->Prop):Au (X.wish E) pins σ H s:=⟨I.ok.wish E,I.os,I.bare,I.base,I.loc,I.cell,I.free,I.freeC,I.pin,I.hok,I.len⟩
theorem Au.unwish (I:Au (X.wish E) pins σ H s):Au X pins σ H s:=⟨I.ok.unwish,I.os,I.bare,I.base,I.loc,I.cell,I.free,I.freeC,I.pin,I.hok,I.len⟩
theorem SP.unwish {D:Gs} {f:Flow} {s':Shared} (h:SP (X.wish E) pins D f s'):SP X pins D f s':=by
 cases f with
 | next=>obtain ⟨Aw,H',I,q⟩:=h; exact ⟨Aw,H',I.unwish,q⟩
 | brk=>obtain ⟨Aw,H',I,q⟩:=h; exact ⟨Aw,H',I.unwish,q⟩
 | cont=>obtain ⟨Aw,H',I,q⟩:=h; exact ⟨Aw,H',I.unwish,q⟩
 | ret u=>obtain ⟨v,Aw,H',I,r,q⟩:=h; exact ⟨v,Aw,H',I.unwish,r,q⟩
theorem OP.nox {st:List Stmt} {t:TS} (h:OP X.nox st t):OP X st t:=fun pins s σ H D I hw=>
 wpAny_mono (h pins s σ H D (I.wish _) hw) (fun _ _ q=>q.unwish) fun _ _ z=>False.elim z
end
section
variable {X:Cx} {st:Stmt} {rest:List Stmt} {t u:TS} {e:Expr} {te:TE} {pos:Pos}
def tNext:TS:=fun D σ H=>D.nx σ H
def tSeq (t u:TS):TS:=fun D σ H=>t { D with nx:=u D } σ H
theorem Bo:OP X [] tNext:=fun _ _ σ H _ I h=>wpAny_execs_nil ⟨σ,H,I,h⟩
theorem Af (h1:PS X st t) (h2:OP X rest u):OP X (st :: rest) (tSeq t u):=by
 intro pins s σ H D I h;refine wpAny_execs_cons (B0 (h1 pins s σ H { D with nx:=u D } I h) fun f s1 q=>?_);cases f with
 | next=>
  obtain ⟨Aw,H',I',q⟩:=q;exact h2 pins s1 Aw H' D I' q
 | ret v=>exact q
 | brk=>exact q
 | cont=>exact q
theorem Al (h1:PS X st t):OP X [st] t:=by
 intro pins s σ H D I h;refine wpAny_execs_cons (B0 (h1 pins s σ H D I h) fun f s1 q=>?_);cases f with
 | next=>exact wpAny_execs_nil q
 | ret v=>exact q
 | brk=>exact q
 | cont=>exact q
theorem Au.quiet {pins:List (Addr × Obj)} {σ:St} {H:Hp} {s:Shared} (I:Au X pins σ H s):interactive X.env=false:=by simp [interactive,I.ok.kind]
def tDrop (te:TE):TS:=fun D σ H=>te σ H fun _ H1=>D.nx σ H1
theorem FX (he:PE X e te) (hs:swapsWith e none pos.line X.env=pure false:=by rfl):PS X (.Expr e pos) (tDrop te):=by
 intro pins s σ H D I h;exact wpAny_Expr_any (B0 (he pins s σ H _ I h) fun v s1 ⟨x,H1,I1,r1,q1⟩=>⟨σ,H1,I1,q1⟩) I.quiet hs
def tRet (te:TE):TS:=fun D σ H=>te σ H D.rt
theorem A4 (he:PE X e te):PS X (.Return (some e) pos) (tRet te):=by
 intro pins s σ H D I h;exact wpAny_Return_some (B0 (he pins s σ H _ I h) fun v s1 ⟨x,H1,I1,r1,q1⟩=>⟨x,σ,H1,I1,r1,q1⟩)
def tIfS (c:TT) (t u:TS):TS:=fun D σ H=>c σ H fun b H1=>if b=true then t D σ H1 else u D σ H1
theorem Cr {c:Expr} {a b:List Stmt} {tc:TT} (hc:PT X c tc) (ha:OP X a t) (hb:OP X b u):PS X (.If c a b pos) (tIfS tc t u):=by
 intro pins s σ H D I h;refine wpAny_If (B0 (hc pins s σ H _ I h) fun d s1 ⟨H1,I1,q1⟩=>?_);cases d with
 | true=>exact ha pins s1 σ H1 D I1 q1
 | false=>exact hb pins s1 σ H1 D I1 q1
end
abbrev TG:=V->St->Hp->(St->Hp->Prop)->Prop
abbrev U4:=List V->St->Hp->(St->Hp->Prop)->Prop
def PG (X:Cx) (target:Expr) (t:TG):Prop:=
 ∀ (pins:List (Addr × Obj)) (s:Shared) (σ:St) (H:Hp) (v:V) (u:Value) (Q:St->Hp->Prop),Au X pins σ H s->AM v u->t v σ H Q ->
  wpAny (model X.prog X.w) X.A (assign target X.env u) (fun _ s'=>∃ Aw H',Au X pins Aw H' s'/\Q Aw H') X.xe s
def PGs (X:Cx) (ts:List Expr) (t:U4):Prop:=
 ∀ (pins:List (Addr × Obj)) (s:Shared) (σ:St) (H:Hp) (vs:List V) (us:List Value) (Q:St->Hp->Prop),Au X pins σ H s->AF vs us->t vs σ H Q ->
  wpAny (model X.prog X.w) X.A (assignInOrder ((assignEach ts X.env).map (·.2)) us) (fun _ s'=>∃ Aw H',Au X pins Aw H' s'/\Q Aw H') X.xe s
abbrev VH:=V->V->V->Hp->(Hp->Prop)->Prop
def PSet (X:Cx) (t:VH):Prop:=
 ∀ (pins:List (Addr × Obj)) (s:Shared) (σ:St) (H:Hp) (o i v:V) (ov iv u:Value) (Q:Hp->Prop),Au X pins σ H s->AM o ov->AM i iv->AM v u->t o i v H Q ->
  wpAny (model X.prog X.w) X.A (setItem ov iv u) (fun _ s'=>∃ H',Au X pins σ H' s'/\Q H') X.xe s
section
variable {X:Cx} {pos:Pos}
def MC (i:Nat):TG:=fun v σ H Q=>Q (σ.set i (some v)) H
theorem Ai {i:Nat} {x:Str} (hN:X.N.Nodup) (hi:X.N[i]? = some x) (hx:Wh X.env.scope x) (hf:X.fn x=true\/X.env.scope.names.lookup x=some .local:=by first | exact .inl rfl | exact .inr rfl | assumption):PG X (.Name x pos) (MC i):=by
 intro pins s σ H v u Q I r h;exact wpAny_assign_Name (LQ I hN hi hx r (fun s' I'=>⟨_,H,I',h⟩) hf)
def gNil:U4:=fun vs σ H Q=>vs=[]/\Q σ H
def gCons (t:TG) (u:U4):U4:=fun vs σ H Q=>∃ v r,vs=v :: r/\t v σ H fun Aw H'=>u r Aw H' Q
theorem AN:PGs X [] gNil:=by
 intro pins s σ H vs us Q I r h;obtain ⟨e,h⟩:=h;subst e;cases r
 exact assignInOrder_nil ⟨σ,H,I,h⟩
theorem Aj {e:Expr} {es:List Expr} {t:TG} {u:U4} (h1:PG X e t) (h2:PGs X es u)
  (hs:(assignEach (e :: es) X.env).map (·.2)=assign e X.env :: (assignEach es X.env).map (·.2):=by rfl):PGs X (e :: es) (gCons t u):=by
 intro pins s σ H vs us Q I r h;obtain ⟨v,vr,e1,h⟩:=h;subst e1;cases r with
 | cons r rr=>
  rw [hs];refine assignInOrder_cons (B0 (h1 pins s σ H _ _ _ I r h) fun _ s1 ⟨VN,H1,I1,q1⟩=>?_);exact h2 pins s1 VN H1 _ _ Q I1 rr q1
def gTup (K:ZD) (n:Nat) (t:U4):TG:=fun v σ H Q=>∃ a xs,v=.ref a/\Ay K H a xs/\xs.length=n/\t xs σ H Q
theorem Vd {es:List Expr} {k:Nat} {t:U4} {n:Nat} (hc:X.calm=true) (h:PGs X es t)
  (hn:(assignEach es X.env).length=n:=by rfl) (hst:(assignEach es X.env).findIdx? (·.1)=none:=by rfl):PG X (.Tuple es k pos) (gTup X.K n t):=by
 intro pins s σ H v u Q I r hw;obtain ⟨a,xs,e1,hq,hl,hw⟩:=hw;subst e1;cases r
 obtain ⟨Av,rv,ht,hz⟩:=I.tuple hq;refine assign_Tuple_tuple (I.ok.hd hc) ht (by simp [hn,<-hl,rv.length]) hst fun h' hx=>?_
 have I1:Au X pins σ H { s with heap:=h' }:=I.kept (t':=s.toks) fun b o e=>hx b o (ZQ (ZK e)) e
 exact h pins _ σ H xs _ Q I1 (by simpa using rv) hw
def gSub (to ti:TE) (t:VH):TG:=fun v σ H Q=>to σ H fun o H1=>ti σ H1 fun i H2=>t o i v H2 fun H3=>Q σ H3
theorem Nu {o i:Expr} {to ti:TE} {t:VH} (ho:PE X o to) (hi:PE X i ti) (hs:PSet X t)
  (ha:∀ v,assign (.Subscript o i pos) X.env v=(do
   let ov <- holding [v] (eval o X.env)
   let iv <- holding [v,ov] (eval i X.env)
   standAt pos
   holding [v,ov,iv] (setItem ov iv v)
   release [v,ov,iv] []):=by intro _; rfl):PG X (.Subscript o i pos) (gSub to ti t):=by
 intro pins s σ H v u Q I r h;rw [ha];refine wpAny_bind (wpAny_holding (B0 (ho pins s σ H _ I h) fun ov s1 ⟨x,H1,I1,r1,q1⟩=>?_));refine wpAny_bind (wpAny_holding (B0 (hi pins s1 σ H1 _ I1 q1) fun iv s2 ⟨y,H2,I2,r2,q2⟩=>?_));refine wpAny_bind (wpAny_standAt (wpAny_bind (wpAny_holding (B0 (hs pins s2 σ H2 x y v ov iv u _ I2 r1 r2 r q2) fun _ s3 ⟨H3,I3,q3⟩=>?_))));exact wpAny_release ⟨σ,H3,I3,q3⟩
def S8 (te:TE) (g:TG):TS:=fun D σ H=>te σ H fun x H1=>g x σ H1 D.nx
theorem Dr {tg e:Expr} {te:TE} {g:TG} (he:PE X e te) (hg:PG X tg g) (hs:swapsWithSole [tg] e pos.line X.env=pure false:=by rfl) (hw:swappedStores [tg] e X.env=pure none:=by rfl)
  (h1:(assignEach [tg] X.env).map (·.2)=[assign tg X.env]:=by rfl):PS X (.Assign [tg] e pos) (S8 te g):=by
 intro pins s σ H D I h;refine wpAny_Assign_stores (B0 (he pins s σ H _ I h) fun v s1 ⟨x,H1,I1,r1,q1⟩=>?_) hs hw;rw [h1];exact B0 (hg pins s1 σ H1 x v _ I1 r1 q1) fun _ s2 q=>q
theorem Ao {i:Nat} {x:Str} {e:Expr} {te:TE} {pos':Pos} (hN:X.N.Nodup) (hi:X.N[i]? = some x) (hx:Wh X.env.scope x) (he:PE X e te) (hs:swapsWith e (some (.Name x pos')) pos.line X.env=pure false:=by rfl) (hf:X.fn x=true\/X.env.scope.names.lookup x=some .local:=by first | exact .inl rfl | exact .inr rfl | assumption) :
  PS X (.Assign [.Name x pos'] e pos) (S8 te (MC i)):=by
 intro pins s σ H D I h;refine wpAny_Assign_Name (B0 (he pins s σ H _ I h) fun v s1 ⟨y,H1,I1,r1,q1⟩=>?_) hs;exact LQ I1 hN hi hx r1 (fun s2 I2=>⟨_,H1,I2,q1⟩) hf
end
section
variable {X:Cx} {pos:Pos}
def UJ (c:TT) (tb:TS):TS:=fun D σ H=>∃ W:Nat->St->Hp->Prop,(∃ m,W m σ H)/\∀ m σ H,W m σ H ->
 c σ H fun b H1=>if b=true then ∃ N:St->Hp->Prop,(∀ Aw H',N Aw H'->∃ m',m' < m/\W m' Aw H')/\tb { D with nx:=N,ct:=N,bk:=D.nx } σ H1 else D.nx σ H1
theorem Rw {c:Expr} {body:List Stmt} {tc:TT} {tb:TS} (hp:PassesOwn (model X.prog X.w) X.A X.env X.xe) (hc:PT X c tc) (hb:OP X body tb):PS X (.While c body [] pos) (UJ tc tb):=by
 intro pins s σ H D I h;obtain ⟨W,⟨m0,w0⟩,turn⟩:=h;refine wpAny_While (codeAny_whileLoop (fun n s'=>∃ Aw H',Au X pins Aw H' s'/\W n Aw H') ?_ m0 ⟨σ,H,I,w0⟩);rintro n s1 ⟨VN,H1,I1,w1⟩;refine wpAny_passesOwn hp (B0 (hc pins s1 VN H1 _ I1 (turn n VN H1 w1)) fun b s2 ⟨H2,I2,q2⟩=>?_);cases b with
 | true=>
  obtain ⟨N,hN,q2⟩:=q2;rw [if_pos rfl];refine wpAny_passesOwn hp (B0 (hb pins s2 VN H2 _ I2 q2) fun f s3 q3=>?_);cases f with
  | next=>
   obtain ⟨QB,H3,I3,n3⟩:=q3;obtain ⟨m',hm,w3⟩:=hN QB H3 n3;exact ⟨m',hm,QB,H3,I3,w3⟩
  | cont=>
   obtain ⟨QB,H3,I3,n3⟩:=q3;obtain ⟨m',hm,w3⟩:=hN QB H3 n3;exact ⟨m',hm,QB,H3,I3,w3⟩
  | brk=>exact q3
  | ret v=>exact q3
 | false=>
  rw [if_neg ZV];exact wpAny_execs_nil ⟨VN,H2,I2,q2⟩
end
structure It where
 go:Nat->Hp->Prop
 yld:Nat->Hp->V->Hp->Prop
 stop:Nat->Hp->Prop
def EU (X:Cx) (pins:List (Addr × Obj)) (H:Hp) (b:Addr):Prop:=
 H b=none/\b ≠ X.env.locals/\b ∉ X.fs/\(b ∈ X.ex\/X.s₀.heap.objs.size<=b)/\(∀ x c,X.env.cells.lookup x=some c->c ≠ b)/\∀ p ∈ X.pn ++ pins,p.1 ≠ b
theorem Au.fpOk {X:Cx} {pins:List (Addr × Obj)} {σ:St} {H H':Hp} {s:Shared} {b:Addr} (I:Au X pins σ H s) (hb:s.heap.objs.size<=b) (hn:H' b=none):EU X pins H' b:=by
 refine ⟨hn,aW (ZX I.lt hb),I.nofs hb,.inr (aj I.sz hb),fun x c e z=>?_,fun p hp z=>?_⟩
 ·obtain ⟨v,q⟩:=I.cell x c e;exact absurd (ZX q.lt (by rw [z]; exact hb)) (aO _)
 ·exact absurd (ZX (ZK (I.pin p hp).1) (by rw [z]; exact hb)) (aO _)
structure MN (P:Program) (w:World) (K:ZD) (tg:Expr) (J:It) (fp:List Addr) (it:Addr) (tn:Nat->Heap->Prop):Prop where
 mem:it ∈ fp
 obj:∀ i h,tn i h->∀ b ∈ fp,∃ o,h.get? b=some o/\∀ v,o.data ≠ .cell v
 keep:∀ i h h',tn i h->(∀ b ∈ fp,∀ o,h.get? b=some o->h'.get? b=some o)->tn i h'
 item:∀ (X:Cx),X.prog=P->X.w=w->X.K=K->X.calm=true->∀ (i:Nat) (pins:List (Addr × Obj)) (s:Shared) (σ:St) (H:Hp) (E:Value->Shared->Prop),Au X pins σ H s->(∀ b ∈ fp,EU X pins H b)->tn i s.heap->J.go i H ->
  wpAny (model P w) X.A (pyNext (.ref it)) (fun r s1=>∃ u,r=some u /\
   wpAny (model P w) X.A (letOwnedTupleGo tg (.ref it) u) (fun _ s2=>∃ x H',Au X pins σ H' s2/\AM x u/\J.yld i H x H'/\tn (i + 1) s2.heap/\∀ b ∈ fp,H' b=none) E s1) E s
 done:∀ (X:Cx),X.prog=P->X.w=w->X.K=K->X.calm=true->∀ (i:Nat) (pins:List (Addr × Obj)) (s:Shared) (σ:St) (H:Hp) (E:Value->Shared->Prop),Au X pins σ H s->(∀ b ∈ fp,EU X pins H b)->tn i s.heap->J.stop i H ->
  wpAny (model P w) X.A (pyNext (.ref it)) (fun r s1=>r=none/\Au X pins σ H s1) E s
 self:∀ (A:Around) (i:Nat) (s:Shared) (Q:Value->Shared->Prop) (E:Value->Shared->Prop),tn i s.heap->Q (.ref it) s->wpAny (model P w) A (pyIter (.ref it)) Q E s
abbrev TI:=St->Hp->(It->Hp->Prop)->Prop
def PIE (X:Cx) (pins:List (Addr × Obj)) (σ:St) (tg:Expr) (R:It->Hp->Prop) (itv:Value) (s2:Shared):Prop:=
 ∃ (it:Addr) (fp:List Addr) (tn:Nat->Heap->Prop) (J:It) (H':Hp),itv=.ref it/\Au X pins σ H' s2/\MN X.prog X.w X.K tg J fp it tn/\tn 0 s2.heap/\(∀ b ∈ fp,EU X pins H' b)/\R J H'
def PI (X:Cx) (tg iter:Expr) (wi:TI):Prop:=
 ∀ (pins:List (Addr × Obj)) (s:Shared) (σ:St) (H:Hp) (R:It->Hp->Prop),Au X pins σ H s->wi σ H R ->
  wpAny (model X.prog X.w) X.A (eval iter X.env) (fun v s1=>wpAny (model X.prog X.w) X.A (pyIter v) (PIE X pins σ tg R) X.xe s1) X.xe s
theorem K2 {M:Model} {A:Around} {E:Value->Shared->Prop} {s:Shared} {tg:Expr} {it:Addr} {u:Value} {o:Obj} {n:String} {vs:Array Value} {Q:Unit->Shared->Prop} (ho:s.heap.get? it=some o) (hc:o.cls=.type n) (hd:o.data=.fields vs)
  (hn:["enumerate","zip","dict_itemiterator","dict_reverseitemiterator","odict_iterator","itertools.zip_longest","itertools.pairwise"].contains n=false) (hQ:Q () s):wpAny M A (letOwnedTupleGo tg (.ref it) u) Q E s:=by
 unfold letOwnedTupleGo;cases tg <;> first
  | exact wpAny_pure hQ
  | (cases u <;> first
    | exact wpAny_pure hQ
    | (refine wpAny_bind (wpAny_load ho ?_)
       rw [hc,hd];show wpAny M A (if (["enumerate","zip","dict_itemiterator","dict_reverseitemiterator","odict_iterator","itertools.zip_longest","itertools.pairwise"].contains n && vs[0]? == some (rawInt _))=true then _ else _) Q E s
       rw [if_neg (by intro h; rw [hn,cJ] at h; cases h)];exact wpAny_pure hQ))
def Itl (K:ZD) (a:Addr):It:=
 ⟨fun i H=>∃ xs x,AZ K H a xs/\xs[i]? = some x,fun i H x H'=>H'=H/\∀ xs,AZ K H a xs->xs[i]? = some x,fun i H=>∃ xs,AZ K H a xs/\xs.length<=i⟩
def Q0 (K:ZD) (a:Addr):It:=
 ⟨fun i H=>∃ xs x,Ay K H a xs/\xs[i]? = some x,fun i H x H'=>H'=H/\∀ xs,Ay K H a xs->xs[i]? = some x,fun i H=>∃ xs,Ay K H a xs/\xs.length<=i⟩
def Sx (lo:Int) (n:Nat):It:=⟨fun i _=>i < n,fun i H x H'=>H'=H/\x=.int (lo + i),fun i _=>n<=i⟩
theorem Kc {P:Program} {w:World} {K:ZD} {tg:Expr} (a it:Addr):MN P w K tg (Itl K a) [it] it (fun i h=>h.IsListIter it a i) where
 mem:=by simp
 obj:=fun i h st b hb=>by
  have e:b=it:=by simpa using hb
  subst e;obtain ⟨o,e,c,d⟩:=st;exact ⟨o,e,fun v z=>by rw [d] at z; cases z⟩
 keep:=fun i h h' st k=>st.at fun o e=>k it (by simp) o e
 item:=by
  intro X hP hw hK hc i pins s σ H E I hf st hg;subst hP hw hK;obtain ⟨xs,x,hq,hx⟩:=hg;obtain ⟨Av,rv,p,hz⟩:=I.list hq;obtain ⟨u,hu,ru⟩:=rv.get hx;obtain ⟨f0,f1,f2,f3,f4,f5⟩:=hf it (by simp);refine wpAny_pyNext_list_item st p.isList (x:=u) (by simpa using hu) fun h' AG sb=>?_
  have I1:Au X pins σ H { s with heap:=h' }:=I.turned (t':=s.toks) (fun b o hb e=>(sb.2 b hb).trans e) f0 f1 f3 f4 f5;obtain ⟨o,e,c,d⟩:=id AG;exact ⟨u,rfl,K2 (s:={ s with heap:=h' }) e c d (by decide) ⟨x,H,I1,ru,⟨rfl,fun ys hy=>by rw [I.list_inj hy hq]; exact hx⟩,AG,fun b hb=>(hf b hb).1⟩⟩
 done:=by
  intro X hP hw hK hc i pins s σ H E I hf st hg;subst hP hw hK;obtain ⟨xs,hq,hx⟩:=hg;obtain ⟨Av,rv,p,hz⟩:=I.list hq;obtain ⟨f0,f1,f2,f3,f4,f5⟩:=hf it (by simp);have hl:=rv.length;exact wpAny_pyNext_list_end (I.ok.hd hc) st p.isList (by simp; lia) fun h' eb=>⟨rfl,I.turned (t':=s.toks) (fun b o hb e=>eb b o hb e) f0 f1 f3 f4 f5⟩
 self:=fun _ _ _ _ _ st h=>wpAny_pyIter_listiter st h
theorem Iz {P:Program} {w:World} {K:ZD} {tg:Expr} (a it:Addr):MN P w K tg (Q0 K a) [it] it (fun i h=>h.IsTupleIter it a i) where
 mem:=by simp
 obj:=fun i h st b hb=>by
  have e:b=it:=by simpa using hb
  subst e;obtain ⟨o,e,c,d⟩:=st;exact ⟨o,e,fun v z=>by rw [d] at z; cases z⟩
 keep:=fun i h h' st k=>st.at fun o e=>k it (by simp) o e
 item:=by
  intro X hP hw hK hc i pins s σ H E I hf st hg;subst hP hw hK;obtain ⟨xs,x,hq,hx⟩:=hg;obtain ⟨Av,rv,p,hz⟩:=I.tuple hq;obtain ⟨u,hu,ru⟩:=rv.get hx;obtain ⟨f0,f1,f2,f3,f4,f5⟩:=hf it (by simp);refine wpAny_pyNext_tuple_item st (show s.heap.IsTuple a Av.toArray from p) (x:=u) (by simpa using hu) fun h' AG sb=>?_
  have I1:Au X pins σ H { s with heap:=h' }:=I.turned (t':=s.toks) (fun b o hb e=>(sb.2 b hb).trans e) f0 f1 f3 f4 f5;obtain ⟨o,e,c,d⟩:=id AG;exact ⟨u,rfl,K2 (s:={ s with heap:=h' }) e c d (by decide) ⟨x,H,I1,ru,⟨rfl,fun ys hy=>by rw [I.tuple_inj hy hq]; exact hx⟩,AG,fun b hb=>(hf b hb).1⟩⟩
 done:=by
  intro X hP hw hK hc i pins s σ H E I hf st hg;subst hP hw hK;obtain ⟨xs,hq,hx⟩:=hg;obtain ⟨Av,rv,p,hz⟩:=I.tuple hq;obtain ⟨f0,f1,f2,f3,f4,f5⟩:=hf it (by simp);have hl:=rv.length;exact wpAny_pyNext_tuple_end (I.ok.hd hc) st (show s.heap.IsTuple a Av.toArray from p) (by simp; lia) fun h' eb=>⟨rfl,I.turned (t':=s.toks) (fun b o hb e=>eb b o hb e) f0 f1 f3 f4 f5⟩
 self:=fun _ _ _ _ _ st h=>wpAny_pyIter_tupleiter st h
theorem Nh {P:Program} {w:World} {K:ZD} {tg:Expr} (it:Addr) (lo:Int) (n:Nat):MN P w K tg (Sx lo n) [it] it (fun i h=>IsRangeIter h it (lo + (i:Nat) * 1) ((n:Int) - (i:Nat)) 1) where
 mem:=by simp
 obj:=fun i h st b hb=>by
  have e:b=it:=by simpa using hb
  subst e;exact ⟨_,st,fun v z=>by
   have z':Data.fields _=Data.cell v:=z;cases z'⟩
 keep:=fun i h h' st k=>k it (by simp) _ st
 item:=by
  intro X hP hw hK hc i pins s σ H E I hf st hg;subst hP hw hK;obtain ⟨f0,f1,f2,f3,f4,f5⟩:=hf it (by simp);have W:=Walks.range (prog:=X.prog) (w:=X.w) (I.ok.hd hc) it lo 1 n;refine W.item i s _ _ hg st fun v h' tk hv AG kk=>?_
  obtain ⟨t,rfl⟩:=hv;have I1:Au X pins σ H { s with heap:=h',toks:=tk }:=I.turned (fun b o hb e=>kk b o (by simpa using hb) e) f0 f1 f3 f4 f5;refine ⟨_,rfl,K2 (s:={ s with heap:=h',toks:=tk }) (n:="range_iterator") AG rfl rfl (by decide) ⟨.int (lo + i),H,I1,⟨t,?_⟩,⟨rfl,rfl⟩,AG,fun b hb=>(hf b hb).1⟩⟩;rw [Int.mul_one]
 done:=by
  intro X hP hw hK hc i pins s σ H E I hf st hg;subst hP hw hK;obtain ⟨f0,f1,f2,f3,f4,f5⟩:=hf it (by simp);exact wpAny_pyNext_range_end (I.ok.hd hc) st (by have:n<=i:=hg; lia) fun h' eb=>⟨rfl,I.turned (t':=s.toks) (fun b o hb e=>eb b o hb e) f0 f1 f3 f4 f5⟩
 self:=fun _ _ _ _ _ st h=>wpAny_pyIter_rangeiter st h
section
variable {X:Cx} {tg:Expr}
def Uo (K:ZD) (tl:TE):TI:=fun σ H R=>tl σ H fun x H1=>∃ a,x=.ref a/\(∃ xs,AZ K H1 a xs)/\R (Itl K a) H1
def iTup (K:ZD) (tl:TE):TI:=fun σ H R=>tl σ H fun x H1=>∃ a,x=.ref a/\(∃ xs,Ay K H1 a xs)/\R (Q0 K a) H1
theorem Fh {l:Expr} {tl:TE} (hl:PE X l tl):PI X tg l (Uo X.K tl):=by
 intro pins s σ H R I h;refine B0 (hl pins s σ H _ I h) fun v s1 ⟨x,H1,I1,r1,q1⟩=>?_
 obtain ⟨a,e,⟨xs,hq⟩,q⟩:=q1;subst e;cases r1
 obtain ⟨Av,rv,p,hz⟩:=I1.list hq;refine wpAny_pyIter_list p.isList ?_;refine ⟨s1.heap.objs.size,[s1.heap.objs.size],_,_,H1,rfl,I1.kept (t':=s1.toks) fun b o e=>ZC _ e,Kc a _,⟨_,ZM _ rfl,rfl,rfl⟩,fun b hb=>?_,q⟩;have e:b=s1.heap.objs.size:=by simpa using hb
 subst e;exact I1.fpOk (ZJ _) (I1.hok.fresh (ZJ _))
theorem G3 {l:Expr} {tl:TE} (hl:PE X l tl):PI X tg l (iTup X.K tl):=by
 intro pins s σ H R I h;refine B0 (hl pins s σ H _ I h) fun v s1 ⟨x,H1,I1,r1,q1⟩=>?_
 obtain ⟨a,e,⟨xs,hq⟩,q⟩:=q1;subst e;cases r1
 obtain ⟨Av,rv,p,hz⟩:=I1.tuple hq;refine wpAny_pyIter_tuple (show s1.heap.IsTuple a Av.toArray from p) ?_;refine ⟨s1.heap.objs.size,[s1.heap.objs.size],_,_,H1,rfl,I1.kept (t':=s1.toks) fun b o e=>ZC _ e,Iz a _,⟨_,ZM _ rfl,rfl,rfl⟩,fun b hb=>?_,q⟩;have e:b=s1.heap.objs.size:=by simpa using hb
 subst e;exact I1.fpOk (ZJ _) (I1.hok.fresh (ZJ _))
theorem Me {pins:List (Addr × Obj)} {σ:St} {H:Hp} {s:Shared} {R:It->Hp->Prop} {E:Value->Shared->Prop} {lo hi:Int} {t u v:Tok} {tk:Nat} (I:Au X pins σ H s) (h1:-(2 ^ 62)<=lo) (h2:lo < 2 ^ 62) (h3:-(2 ^ 62)<=hi) (h4:hi < 2 ^ 62)
  (q:R (Sx lo (hi - lo).toNat) H):wpAny (model X.prog X.w) X.A (pyIter (.ref s.heap.objs.size)) (PIE X pins σ tg R) E { s with heap:=s.heap.push { cls:=.type "range",data:=.fields #[.int lo t,.int hi u,.int 1 v] },toks:=tk }:=by
 refine wpAny_pyIter_range (IsRange.new ..) (small_one h1 h2 h3 h4) ?_;have I1:Au X pins σ H { s with heap:=s.heap.push { cls:=.type "range",data:=.fields #[.int lo t,.int hi u,.int 1 v] },toks:=tk }:=I.kept fun b o e=>ZC _ e
 refine ⟨(s.heap.push { cls:=.type "range",data:=.fields #[.int lo t,.int hi u,.int 1 v] }).objs.size,[(s.heap.push { cls:=.type "range",data:=.fields #[.int lo t,.int hi u,.int 1 v] }).objs.size],_,_,H,rfl,
  I1.kept (t':=tk) fun b o e=>ZC _ e,Nh _ lo (hi - lo).toNat,?_,fun b hb=>?_,q⟩
 ·have e1:lo + ((0:Nat):Int) * 1=lo:=by simp
  have e2:(((hi - lo).toNat:Nat):Int) - ((0:Nat):Int)=Builtin.Range.rangeSize lo hi 1:=by rw [rangeSize_one]; split <;> lia
  show IsRangeIter _ _ (lo + ((0:Nat):Int) * 1) ((((hi - lo).toNat:Nat):Int) - ((0:Nat):Int)) 1
  rw [e1,e2];exact ZM _ rfl
 ·have e:b=(s.heap.push { cls:=.type "range",data:=.fields #[.int lo t,.int hi u,.int 1 v] }).objs.size:=by simpa using hb
  subst e;exact I1.fpOk (ZJ _) (I1.hok.fresh (ZJ _))
def iRng1 (ta:TA):TI:=fun σ H R=>ta σ H fun vs H1=>∃ j:Int,vs=[.int j]/\-(2 ^ 62)<=j/\j < 2 ^ 62/\R (Sx 0 j.toNat) H1
def iRng2 (ta:TA):TI:=fun σ H R=>ta σ H fun vs H1=>∃ i j:Int,vs=[.int i,.int j]/\(-(2 ^ 62)<=i/\i < 2 ^ 62/\-(2 ^ 62)<=j/\j < 2 ^ 62)/\R (Sx i (j - i).toNat) H1
theorem C0 {a:Expr} {ta:TA} {p pos:Pos} (hg:Gl X "range") (hm:X.mg "range"=none) (ha:PA X [a] ta) (hs:starEach [a] X.env=[(false,eval a X.env)]:=by rfl):PI X tg (.Call (.Name "range" p) [a] [] pos) (iRng1 ta):=by
 intro pins s σ H R I h;refine Call_ (GK I hg hm boot_range (PyProof.Rows.callWith_type1 (B0 (ha pos pins s σ H _ I h) fun us s1 ⟨vs,H1,I1,r1,q1⟩=>?_) hs rfl));obtain ⟨j,e,q1,q2,q⟩:=q1;subst e;cases r1 with
 | cons r rr=>
  cases rr
  obtain ⟨t,rfl⟩:=r;exact call_range_1 (Me I1 (by lia) (by lia) q1 q2 (by simpa using q))
theorem PD {a b:Expr} {ta:TA} {p pos:Pos} (hg:Gl X "range") (hm:X.mg "range"=none) (ha:PA X [a,b] ta) (hs:starEach [a,b] X.env=[(false,eval a X.env),(false,eval b X.env)]:=by rfl) (VW:starEach [b] X.env=[(false,eval b X.env)]:=by rfl) :
  PI X tg (.Call (.Name "range" p) [a,b] [] pos) (iRng2 ta):=by
 intro pins s σ H R I h;refine Call_ (GK I hg hm boot_range (PyProof.Rows.callWith_type1 (B0 (ha pos pins s σ H _ I h) fun us s1 ⟨vs,H1,I1,r1,q1⟩=>?_) (by rw [hs,VW]) (by rw [VW]; rfl)));obtain ⟨i,j,e,⟨q1,q2,q3,q4⟩,q⟩:=q1;subst e;cases r1 with
 | cons r rr=>
  cases rr with
  | cons r' rr=>
   cases rr
   obtain ⟨t,rfl⟩:=r;obtain ⟨t',rfl⟩:=r';exact call_range_2 (Me I1 q1 q2 q3 q4 q)
def tFor (wi:TI) (g:TG) (tb:TS):TS:=fun D σ H=>wi σ H fun J H1=>∃ W:Nat->Nat->St->Hp->Prop,(∃ m,W 0 m σ H1)/\∀ i m σ H,W i m σ H ->
 (J.stop i H/\D.nx σ H)\/(J.go i H/\∃ N:St->Hp->Prop,(∀ Aw H',N Aw H'->∃ m',m' < m/\W (i + 1) m' Aw H')/\∀ x H',J.yld i H x H'->g x σ H' fun AB H2=>tb { D with nx:=N,ct:=N,bk:=D.nx } AB H2)
def EJ (fp:List Addr) (h:Heap):List (Addr × Obj):=fp.filterMap fun b=>(h.get? b).map fun o=>(b,o)
theorem B4 {fp:List Addr} {h:Heap} {b:Addr} {o:Obj} (hb:b ∈ fp) (e:h.get? b=some o):(b,o) ∈ EJ fp h:=cX.mpr ⟨b,hb,by rw [e]; rfl⟩
theorem PR {fp:List Addr} {h:Heap} {p:Addr × Obj} (hp:p ∈ EJ fp h):p.1 ∈ fp/\h.get? p.1=some p.2:=by
 obtain ⟨b,hb,e⟩:=cX.mp hp;cases q:h.get? b with
 | none=>rw [q] at e; cases e
 | some o=>
  rw [q] at e;have e':(b,o)=p:=ZZ.inj e;subst e';exact ⟨hb,q⟩
theorem Au.pinned {pins:List (Addr × Obj)} {σ:St} {H:Hp} {s:Shared} {fp:List Addr} (I:Au X pins σ H s) (hf:∀ b ∈ fp,EU X pins H b) (ho:∀ b ∈ fp,∃ o,s.heap.get? b=some o/\∀ v,o.data ≠ .cell v):Au X (pins ++ EJ fp s.heap) σ H s:=
 I.pins_of fun p hp=>(af.mp hp).elim (fun z=>I.pin p (ZT _ z)) fun z=>by
  obtain ⟨hb,e⟩:=PR z;obtain ⟨f0,f1,f2,_⟩:=hf p.1 hb;obtain ⟨o,e',d⟩:=ho p.1 hb;rw [e] at e'; cases e';exact ⟨e,f0,f1,f2,d⟩
theorem Au.unpinned {pins pl:List (Addr × Obj)} {σ:St} {H:Hp} {s:Shared} (I:Au X (pins ++ pl) σ H s):Au X pins σ H s:=I.pins_of fun p hp=>I.pin p (ZT _ (aT _ hp))
theorem BC {iter:Expr} {body:List Stmt} {wi:TI} {g:TG} {tb:TS} {pos:Pos} (hp:PassesOwn (model X.prog X.w) X.A X.env X.xe) (hc:X.calm=true) (hi:PI X tg iter wi) (hg:PG X tg g) (hb:OP X body tb)
  (hs:∀ x,foldedSetIterable iter X.env x=pure x:=by intro _; rfl):PS X (.For tg iter body [] pos) (tFor wi g tb):=by
 intro pins s σ H D I h;refine wpAny_For (B0 (hi pins s σ H _ I h) fun v s1 h1=>B0 h1 fun itv s2 h2=>?_) hs;obtain ⟨it,fp,tn,J,H2,e,I2,T,Gx,f2,W,⟨m0,w0⟩,turn⟩:=h2;subst e;have stat:∀ {H':Hp},(∀ b ∈ fp,H' b=none)->∀ b ∈ fp,EU X pins H' b:=fun hn b hb=>⟨hn b hb,(f2 b hb).2⟩
 refine codeAny_forLoop_any (fun n s'=>∃ i Aw H',Au X pins Aw H' s'/\tn i s'.heap/\(∀ b ∈ fp,H' b=none)/\W i n Aw H') ?_ m0 ⟨0,σ,H2,I2,Gx,fun b hb=>(f2 b hb).1,w0⟩;rintro n s3 ⟨i,QB,H3,I3,Y0,fr3,w3⟩;rcases turn i n QB H3 w3 with ⟨stop,qn⟩ | ⟨go,N,hN,step⟩
 ·refine wpAny_passesOwn hp (B0 (T.done X rfl rfl rfl hc i pins s3 QB H3 X.xe I3 (stat fr3) Y0 stop) fun r s4 ⟨hr,I4⟩=>?_);subst hr;exact wpAny_execs_nil ⟨QB,H3,I4,qn⟩
 ·refine wpAny_passesOwn hp (B0 (T.item X rfl rfl rfl hc i pins s3 QB H3 X.xe I3 (stat fr3) Y0 go) fun r s4 ⟨u,hr,h4⟩=>?_);subst hr;refine wpAny_passesOwn hp (B0 h4 fun _ s5 ⟨x,H5,I5,r5,y5,Wl,fr5⟩=>?_);have I5':=I5.pinned (stat fr5) (T.obj _ _ Wl);refine wpAny_passesOwn hp (B0 (hg _ s5 QB H5 x u _ I5' r5 (step x H5 y5)) fun _ s6 ⟨σ6,H6,I6,q6⟩=>?_);refine wpAny_passesOwn hp (B0 (hb _ s6 σ6 H6 _ I6 q6) fun f s7 q7=>?_);have again:∀ {FF:St} {H7:Hp},Au X (pins ++ EJ fp s5.heap) FF H7 s7->N FF H7->∃ m,m < n/\∃ i Aw H',Au X pins Aw H' s7/\tn i s7.heap/\(∀ b ∈ fp,H' b=none)/\W i m Aw H':=fun {FF H7} I7 n7=>by
   obtain ⟨m',hm,w7⟩:=hN FF H7 n7;refine ⟨m',hm,i + 1,FF,H7,I7.unpinned,T.keep _ _ _ Wl fun b hb o e=>(I7.pin (b,o) (ZT _ (ZT _ (B4 hb e)))).1,fun b hb=>?_,w7⟩;obtain ⟨o,e,d⟩:=T.obj _ _ Wl b hb;exact (I7.pin (b,o) (ZT _ (ZT _ (B4 hb e)))).2.1
  cases f with
  | next=>obtain ⟨FF,H7,I7,n7⟩:=q7; exact again I7 n7
  | cont=>obtain ⟨FF,H7,I7,n7⟩:=q7; exact again I7 n7
  | brk=>obtain ⟨FF,H7,I7,q7⟩:=q7; exact ⟨FF,H7,I7.unpinned,q7⟩
  | ret v=>obtain ⟨x7,FF,H7,I7,r7,q7⟩:=q7; exact ⟨x7,FF,H7,I7.unpinned,r7,q7⟩
end
theorem OK {K:ZD} {a:Addr} {xs:List V} {g:TG} {tb:TS} {D:Gs} {σ:St} {H:Hp} (Pv:Nat->St->Hp->Prop) (h0:Pv 0 σ H) (hl:∀ i σ H,i<=xs.length->Pv i σ H->Ay K H a xs)
  (hs:∀ i x σ H,xs[i]? = some x->Pv i σ H->g x σ H fun AB H2=>tb { D with nx:=Pv (i + 1),ct:=Pv (i + 1),bk:=D.nx } AB H2) (hd:∀ σ H,Pv xs.length σ H->D.nx σ H) :
  ∃ W:Nat->Nat->St->Hp->Prop,(∃ m,W 0 m σ H)/\∀ i m σ H,W i m σ H ->
   ((Q0 K a).stop i H/\D.nx σ H)\/((Q0 K a).go i H/\∃ N:St->Hp->Prop,(∀ Aw H',N Aw H'->∃ m',m' < m/\W (i + 1) m' Aw H')/\∀ x H',(Q0 K a).yld i H x H'->g x σ H' fun AB H2=>tb { D with nx:=N,ct:=N,bk:=D.nx } AB H2):=by
 exists fun i m σ H=>m=xs.length - i/\i<=xs.length/\Pv i σ H,⟨xs.length,by simp,ao _,h0⟩
 rintro i m σ H ⟨rfl,hi,p⟩;have q:=hl i σ H hi p;by_cases BD:i < xs.length
 ·refine .inr ⟨⟨xs,xs[i],q,by simp [BD]⟩,Pv (i + 1),fun Aw H' p'=>⟨xs.length - (i + 1),by lia,rfl,BD,p'⟩,fun x H' y=>?_⟩;obtain ⟨e,y⟩:=y;subst e;exact hs i x σ _ (y xs q) p
 ·have e:i=xs.length:=by lia
  subst e;exact .inl ⟨⟨xs,q,ZJ _⟩,hd σ H p⟩
theorem Dk {lo:Int} {n:Nat} {g:TG} {tb:TS} {D:Gs} {σ:St} {H:Hp} (Pv:Nat->St->Hp->Prop) (h0:Pv 0 σ H)
  (hs:∀ i σ H,i < n->Pv i σ H->g (.int (lo + i)) σ H fun AB H2=>tb { D with nx:=Pv (i + 1),ct:=Pv (i + 1),bk:=D.nx } AB H2) (hd:∀ σ H,Pv n σ H->D.nx σ H) :
  ∃ W:Nat->Nat->St->Hp->Prop,(∃ m,W 0 m σ H)/\∀ i m σ H,W i m σ H ->
   ((Sx lo n).stop i H/\D.nx σ H)\/((Sx lo n).go i H/\∃ N:St->Hp->Prop,(∀ Aw H',N Aw H'->∃ m',m' < m/\W (i + 1) m' Aw H')/\∀ x H',(Sx lo n).yld i H x H'->g x σ H' fun AB H2=>tb { D with nx:=N,ct:=N,bk:=D.nx } AB H2):=by
 exists fun i m σ H=>m=n - i/\i<=n/\Pv i σ H,⟨n,by simp,ao _,h0⟩
 rintro i m σ H ⟨rfl,hi,p⟩;by_cases BD:i < n
 ·refine .inr ⟨BD,Pv (i + 1),fun Aw H' p'=>⟨n - (i + 1),by lia,rfl,BD,p'⟩,fun x H' y=>?_⟩;obtain ⟨e,y⟩:=y;subst e y;exact hs i σ _ BD p
 ·have e:i=n:=by lia
  subst e;exact .inl ⟨ZJ _,hd σ H p⟩
abbrev R2:=V->V->Hp->VK->Prop
def EA (X:Cx) (f:Value->Value->Sem Value) (r:R2):Prop:=
 ∀ (pins:List (Addr × Obj)) (s:Shared) (σ:St) (H:Hp) (x y:V) (v u:Value) (Q:VK),Au X pins σ H s->AM x v->AM y u->r x y H Q ->
  wpAny (model X.prog X.w) X.A (f v u) (EP X pins σ Q) X.xe s
def Bn (X:Cx) (f:Value) (r:List V->Hp->VK->Prop):Prop:=
 ∀ (pins:List (Addr × Obj)) (s:Shared) (σ:St) (H:Hp) (xs:List V) (us:List Value) (Q:VK),Au X pins σ H s->AF xs us->r xs H Q ->
  wpAny (model X.prog X.w) X.A (call f us) (EP X pins σ Q) X.xe s
def TruR (X:Cx) (r:V->Hp->(Bool->Hp->Prop)->Prop):Prop:=
 ∀ (pins:List (Addr × Obj)) (s:Shared) (σ:St) (H:Hp) (x:V) (v:Value) (Q:Bool->Hp->Prop),Au X pins σ H s->AM x v->r x H Q ->
  wpAny (model X.prog X.w) X.A (truthy v) (TP X pins σ Q) X.xe s
def tOp (r:R2) (ta tb:TE):TE:=fun σ H Q=>ta σ H fun x H1=>tb σ H1 fun y H2=>r x y H2 Q
def rI (C:Int->Int->Prop) (g:Int->Int->V):R2:=fun x y H Q=>∃ i j,x=.int i/\y=.int j/\C i j/\Q (g i j) H
def Uc (g:Int->Int->V):R2:=fun x y H Q=>∃ i j,x=.int i/\y=.int j/\Q (g i j) H
section
variable {X:Cx} {a b c:Expr} {ta tb tc:TE} {pos:Pos}
theorem VE (ha:PE X a ta) (hb:PE X b tb) {pins:List (Addr × Obj)} {s:Shared} {σ:St} {H:Hp} {R:V->V->Hp->Prop} (I:Au X pins σ H s)
  (h:ta σ H fun x H1=>tb σ H1 fun y H2=>R x y H2) {Q:Value->Shared->Prop} {f:Value->Value->Sem Value}
  (hf:∀ v u s2 x y H2,Au X pins σ H2 s2->AM x v->AM y u->R x y H2->wpAny (model X.prog X.w) X.A (f v u) Q X.xe s2) :
  wpAny (model X.prog X.w) X.A (eval a X.env) (fun v Bc=>wpAny (model X.prog X.w) X.A (eval b X.env) (fun u E7=>wpAny (model X.prog X.w) X.A (f v u) Q X.xe E7) X.xe Bc) X.xe s:=by
 refine B0 (ha pins s σ H _ I h) fun v s1 ⟨x,H1,I1,r1,q1⟩=>?_
 refine B0 (hb pins s1 σ H1 _ I1 q1) fun u s2 ⟨y,H2,I2,r2,q2⟩=>?_
 exact hf v u s2 x y H2 I2 r1 r2 q2
theorem As {op:Operator} {r:R2} (ho:EA X (binaryOp op) r) (ha:PE X a ta) (hb:PE X b tb):PE X (.BinOp a op b pos) (tOp r ta tb):=by
 intro pins s σ H Q I h;exact wpAny_BinOp (VE ha hb I h fun v u s2 x y H2 I2 rx ry q=>ho pins s2 σ H2 x y v u Q I2 rx ry q)
theorem opI {f:Value->Value->Sem Value} {C:Int->Int->Prop} {g:Int->Int->Int}
  (rule:∀ (i j:Int) (t u:Tok) (s:Shared) (Q:Value->Shared->Prop) (E:Value->Shared->Prop),C i j->Q (.int (g i j) s.toks) { s with toks:=s.toks + 1 }->wpAny (model X.prog X.w) X.A (f (.int i t) (.int j u)) Q E s) :
  EA X f (rI C fun i j=>.int (g i j)):=by
 intro pins s σ H x y v u Q I rx ry h;obtain ⟨i,j,rfl,rfl,hc,q⟩:=h;obtain ⟨t,rfl⟩:=rx;obtain ⟨t',rfl⟩:=ry;exact rule i j t t' s _ _ hc ⟨.int (g i j),H,I.tok _,⟨_,rfl⟩,q⟩
theorem opI0 {f:Value->Value->Sem Value} {g:Int->Int->Int}
  (rule:∀ (i j:Int) (t u:Tok) (s:Shared) (Q:Value->Shared->Prop) (E:Value->Shared->Prop),Q (.int (g i j) s.toks) { s with toks:=s.toks + 1 }->wpAny (model X.prog X.w) X.A (f (.int i t) (.int j u)) Q E s) :
  EA X f (Uc fun i j=>.int (g i j)):=by
 intro pins s σ H x y v u Q I rx ry h;obtain ⟨i,j,rfl,rfl,q⟩:=h;obtain ⟨t,rfl⟩:=rx;obtain ⟨t',rfl⟩:=ry;exact rule i j t t' s _ _ ⟨.int (g i j),H,I.tok _,⟨_,rfl⟩,q⟩
theorem SS {f:Value->Value->Sem Value} {g:Int->Int->Bool}
  (rule:∀ (i j:Int) (t u:Tok) (s:Shared) (Q:Value->Shared->Prop) (E:Value->Shared->Prop),Q (.bool (g i j)) s->wpAny (model X.prog X.w) X.A (f (.int i t) (.int j u)) Q E s) :
  EA X f (Uc fun i j=>.bl (g i j)):=by
 intro pins s σ H x y v u Q I rx ry h;obtain ⟨i,j,rfl,rfl,q⟩:=h;obtain ⟨t,rfl⟩:=rx;obtain ⟨t',rfl⟩:=ry;exact rule i j t t' s _ _ ⟨.bl (g i j),H,I,rfl,q⟩
def CPow (i j:Int):Prop:=0<=j/\j<=1000000/\i.natAbs < 2 ^ 64
def VM (i j:Int):Prop:=(-(2 ^ 64) < i/\i < 2 ^ 64)\/(-(2 ^ 64) < j/\j < 2 ^ 64)
theorem VM.ok {i j:Int} (h:VM i j):IntMulOk i j:=by
 rcases h with ⟨h1,h2⟩ | ⟨h1,h2⟩
 ·exact .of_left (intBits_le_64 h1 h2)
 ·exact .of_right (intBits_le_64 h1 h2)
theorem Bg:EA X (binaryOp .Add) (Uc fun i j=>.int (i + j)):=opI0 fun _ _ _ _ _ _ _ q=>add_int q
theorem G5:EA X (binaryOp .Sub) (Uc fun i j=>.int (i - j)):=opI0 fun _ _ _ _ _ _ _ q=>sub_int q
theorem BG:EA X (binaryOp .Mult) (rI VM fun i j=>.int (i * j)):=opI fun _ _ _ _ _ _ _ hc q=>mul_int q hc.ok
theorem EL:EA X (binaryOp .Mod) (rI (fun _ j=>0 < j) fun i j=>.int (i % j)):=opI fun i j _ _ _ _ _ hc q=>by
 have h1:(0:Int) < j:=hc;exact mod_int' (by lia) (by rw [Int.fmod_eq_emod_of_nonneg i (by lia)]; exact q)
theorem Nw:EA X (binaryOp .Pow) (rI CPow fun i j=>.int (i ^ j.toNat)):=opI fun _ _ _ _ _ _ _ hc q=>pow_int_small hc.1 hc.2.1 hc.2.2 q
end
def scal:V->V->Bool
 | .non,.non=>true | .non,.int _=>true | .int _,.non=>true | .non,.bl _=>true | .bl _,.non=>true | .non,.str _=>true | .str _,.non=>true
 | .int _,.int _=>true | .bl _,.bl _=>true | .str _,.str _=>true | .byt _,.byt _=>true
 | .int _,.str _=>true | .str _,.int _=>true | .bl _,.str _=>true | .str _,.bl _=>true
 | _,_=>false
def rEq:R2:=fun x y H Q=>scal x y=true/\Q (.bl (decide (x=y))) H
def rNe:R2:=fun x y H Q=>scal x y=true/\Q (.bl (!decide (x=y))) H
theorem OM {i j:Int}:decide (V.int i=V.int j)=(i == j):=by
 rw [aZ];simp
theorem Se {i j:Bool}:decide (V.bl i=V.bl j)=(i == j):=by
 rw [aZ];simp
theorem OL {i j:Str}:decide (V.str i=V.str j)=(i == j):=by
 rw [aZ];simp
theorem ON {i j:Array UInt8}:decide (V.byt i=V.byt j)=(i.toList == j.toList):=by
 rw [aZ];cases i
 cases j
 simp
section
variable {X:Cx} {a b c:Expr} {ta tb tc:TE} {pos:Pos}
theorem Bh {pins:List (Addr × Obj)} {σ:St} {H:Hp} {s:Shared} {Q:VK} {k k':Bool} (I:Au X pins σ H s) (q:Q (.bl k) H) (e:k=k'):EP X pins σ Q (.bool k') s:=by
 subst e;exact ⟨.bl k,H,I,rfl,q⟩
theorem Hu:EA X (compareOp .Eq) rEq:=by
 intro pins s σ H x y v u Q I rx ry h;obtain ⟨hs,q⟩:=h;cases x with
 | non=>
  cases rx
  cases y with
  | non=>cases ry; exact PySem.EqNone.eq_none_none (Bh I q (by simp))
  | bl j=>cases ry; exact PySem.EqNone.eq_none_bool (Bh I q (by simp))
  | int j=>obtain ⟨t',rfl⟩:=ry; exact PySem.EqNone.eq_none_int (Bh I q (by simp))
  | str j=>obtain ⟨t',rfl⟩:=ry; exact PySem.EqNone.eq_none_str (Bh I q (by simp))
  | _=>exact absurd (show false=true from hs) ZV
 | bl i=>
  cases rx
  cases y with
  | non=>cases ry; exact PySem.EqNone.eq_bool_none (Bh I q (by simp))
  | bl j=>cases ry; exact eq_bool (Bh I q Se)
  | str j=>obtain ⟨t',rfl⟩:=ry; exact PySem.EqMixed.eq_bool_str (Bh I q (by simp))
  | _=>exact absurd (show false=true from hs) ZV
 | int i=>
  obtain ⟨t,rfl⟩:=rx;cases y with
  | non=>cases ry; exact PySem.EqNone.eq_int_none (Bh I q (by simp))
  | int j=>obtain ⟨t',rfl⟩:=ry; exact eq_int (Bh I q OM)
  | str j=>obtain ⟨t',rfl⟩:=ry; exact PySem.EqMixed.eq_int_str (Bh I q (by simp))
  | _=>exact absurd (show false=true from hs) ZV
 | str i=>
  obtain ⟨t,rfl⟩:=rx;cases y with
  | non=>cases ry; exact PySem.EqNone.eq_str_none (Bh I q (by simp))
  | bl j=>cases ry; exact PySem.EqMixed.eq_str_bool (Bh I q (by simp))
  | int j=>obtain ⟨t',rfl⟩:=ry; exact PySem.EqMixed.eq_str_int (Bh I q (by simp))
  | str j=>obtain ⟨t',rfl⟩:=ry; exact eq_str (Bh I q OL)
  | _=>exact absurd (show false=true from hs) ZV
 | byt i=>
  obtain ⟨t,rfl⟩:=rx;cases y with
  | byt j=>obtain ⟨t',rfl⟩:=ry; exact PySem.W.eq_bytes (Bh I q ON)
  | _=>exact absurd (show false=true from hs) ZV
 | _=>cases y <;> exact absurd (show false=true from hs) ZV
theorem R7:EA X (compareOp .NotEq) rNe:=by
 intro pins s σ H x y v u Q I rx ry h;obtain ⟨hs,q⟩:=h;cases x with
 | non=>
  cases rx
  cases y with
  | non=>cases ry; exact PySem.EqNone.ne_none_none (Bh I q (by simp))
  | bl j=>cases ry; exact PySem.EqNone.ne_none_bool (Bh I q (by simp))
  | int j=>obtain ⟨t',rfl⟩:=ry; exact PySem.EqNone.ne_none_int (Bh I q (by simp))
  | str j=>obtain ⟨t',rfl⟩:=ry; exact PySem.EqNone.ne_none_str (Bh I q (by simp))
  | _=>exact absurd (show false=true from hs) ZV
 | bl i=>
  cases rx
  cases y with
  | non=>cases ry; exact PySem.EqNone.ne_bool_none (Bh I q (by simp))
  | bl j=>cases ry; exact ne_bool (Bh I q (congrArg not Se))
  | str j=>obtain ⟨t',rfl⟩:=ry; exact PySem.EqMixed.ne_bool_str (Bh I q (by simp))
  | _=>exact absurd (show false=true from hs) ZV
 | int i=>
  obtain ⟨t,rfl⟩:=rx;cases y with
  | non=>cases ry; exact PySem.EqNone.ne_int_none (Bh I q (by simp))
  | int j=>obtain ⟨t',rfl⟩:=ry; exact ne_int (Bh I q (congrArg not OM))
  | str j=>obtain ⟨t',rfl⟩:=ry; exact PySem.EqMixed.ne_int_str (Bh I q (by simp))
  | _=>exact absurd (show false=true from hs) ZV
 | str i=>
  obtain ⟨t,rfl⟩:=rx;cases y with
  | non=>cases ry; exact PySem.EqNone.ne_str_none (Bh I q (by simp))
  | bl j=>cases ry; exact PySem.EqMixed.ne_str_bool (Bh I q (by simp))
  | int j=>obtain ⟨t',rfl⟩:=ry; exact PySem.EqMixed.ne_str_int (Bh I q (by simp))
  | str j=>obtain ⟨t',rfl⟩:=ry; exact ne_str (Bh I q (congrArg not OL))
  | _=>exact absurd (show false=true from hs) ZV
 | byt i=>
  obtain ⟨t,rfl⟩:=rx;cases y with
  | byt j=>obtain ⟨t',rfl⟩:=ry; exact PySem.W.ne_bytes (Bh I q (congrArg not ON))
  | _=>exact absurd (show false=true from hs) ZV
 | _=>cases y <;> exact absurd (show false=true from hs) ZV
theorem O8:EA X (compareOp .Lt) (Uc fun i j=>.bl (decide (i < j))):=SS fun _ _ _ _ _ _ _ q=>lt_int q
theorem Ku:EA X (compareOp .LtE) (Uc fun i j=>.bl (decide (i<=j))):=SS fun _ _ _ _ _ _ _ q=>le_int q
theorem Ug:EA X (compareOp .Gt) (Uc fun i j=>.bl (decide (j < i))):=SS fun _ _ _ _ _ _ _ q=>gt_int q
theorem Uh:EA X (compareOp .GtE) (Uc fun i j=>.bl (decide (j<=i))):=SS fun _ _ _ _ _ _ _ q=>ge_int q
theorem Bx (b:Expr) {op:CmpOp} (h:op ≠ .In:=by decide) (h2:op ≠ .NotIn:=by decide):behindInMarks op b=false:=by
 have e1:(op == CmpOp.In)=false:=by cases op <;> first | rfl | exact absurd rfl h
 have e2:(op == CmpOp.NotIn)=false:=by cases op <;> first | rfl | exact absurd rfl h2
 cases b <;> simp [behindInMarks,e1,e2]
theorem Ct {op:CmpOp} {r:R2} (ho:EA X (compareOp op) r) (ha:PE X a ta) (hb:PE X b tb) (hm:behindInMarks op b=false):PE X (.Compare a [op] [b] pos) (tOp r ta tb):=by
 intro pins s σ H Q I h;exact wpAny_Compare1 (VE ha hb I h fun v u s2 x y H2 I2 rx ry q=>ho pins s2 σ H2 x y v u Q I2 rx ry q) hm
def TU (t:TE):TT:=fun σ H Q=>t σ H fun x H'=>∃ k,x=.bl k/\Q k H'
theorem By {op:CmpOp} {r:R2} (ho:EA X (compareOp op) r) (ha:PE X a ta) (hb:PE X b tb) (hm:behindInMarks op b=false):PT X (.Compare a [op] [b] pos) (TU (tOp r ta tb)):=by
 intro pins s σ H Q I h;refine wpAny_isTrue_Compare1 (B0 (ha pins s σ H _ I h) fun v s1 ⟨x,H1,I1,r1,q1⟩=>B0 (hb pins s1 σ H1 _ I1 q1) fun u s2 ⟨y,H2,I2,r2,q2⟩=>
  B0 (ho pins s2 σ H2 x y v u _ I2 r1 r2 q2) fun c s3 ⟨z,H3,I3,r3,k,e,q3⟩=>?_) hm
 subst e;cases r3
 exact wpAny_truthy_bool ⟨H3,I3,q3⟩
def Ni (r r':R2) (ta tb tc:TE):TE:=fun σ H Q=>ta σ H fun x H1=>tb σ H1 fun y H2=>r x y H2 fun z H3=>∃ k,z=.bl k /\
 (if k=true then tc σ H3 fun w' H4=>r' y w' H4 Q else Q (.bl false) H3)
theorem R4 {op Vl:CmpOp} {r r':R2} (ho:EA X (compareOp op) r) (Im:EA X (compareOp Vl) r') (ha:PE X a ta) (hb:PE X b tb) (hc:PE X c tc)
  (hm:lastMarks [op,Vl] [b,c]=false:=by with_unfolding_all rfl):PE X (.Compare a [op,Vl] [b,c] pos) (Ni r r' ta tb tc):=by
 intro pins s σ H Q I h;refine Compare_chain (B0 (ha pins s σ H _ I h) fun v s1 ⟨x,H1,I1,r1,q1⟩=>chain_link (B0 (hb pins s1 σ H1 _ I1 q1) fun u s2 ⟨y,H2,I2,r2,q2⟩=>
  B0 (ho pins s2 σ H2 x y v u _ I2 r1 r2 q2) fun d s3 ⟨z,H3,I3,r3,k,e,q3⟩=>?_)) hm
 subst e;cases r3
 refine wpAny_truthy_bool ?_;cases k with
 | false=>exact ite_ff ⟨.bl false,H3,I3,rfl,q3⟩
 | true=>exact ite_tt (chain_last (B0 (hc pins s3 σ H3 _ I3 q3) fun w' s4 ⟨z',H4,I4,r4,q4⟩=>Im pins s4 σ H4 y z' u w' Q I4 r2 r4 q4))
theorem IL {op Vl:CmpOp} {r r':R2} (ho:EA X (compareOp op) r) (Im:EA X (compareOp Vl) r') (ha:PE X a ta) (hb:PE X b tb) (hc:PE X c tc)
  (hm:lastMarks [op,Vl] [b,c]=false:=by with_unfolding_all rfl):PT X (.Compare a [op,Vl] [b,c] pos) (TU (Ni r r' ta tb tc)):=by
 intro pins s σ H Q I h;refine isTrue_chain (B0 (ha pins s σ H _ I h) fun v s1 ⟨x,H1,I1,r1,q1⟩=>test_link (B0 (hb pins s1 σ H1 _ I1 q1) fun u s2 ⟨y,H2,I2,r2,q2⟩=>
  B0 (ho pins s2 σ H2 x y v u _ I2 r1 r2 q2) fun d s3 ⟨z,H3,I3,r3,k,e,q3⟩=>?_)) hm
 subst e;cases r3
 refine wpAny_truthy_bool ?_;cases k with
 | false=>
  obtain ⟨k',e',q'⟩:=q3;cases e'
  exact ite_ff ⟨H3,I3,q'⟩
 | true=>
  refine ite_tt (test_last (B0 (hc pins s3 σ H3 _ I3 q3) fun w' s4 ⟨z',H4,I4,r4,q4⟩=>B0 (Im pins s4 σ H4 y z' u w' _ I4 r2 r4 q4) fun d' s5 ⟨z2,H5,I5,r5,k2,e2,q5⟩=>?_));subst e2;cases r5
  exact wpAny_truthy_bool ⟨H5,I5,q5⟩
def TruV (K:ZD) (x:V) (H:Hp) (k:Bool):Prop:=
 match x with
 | .non=>k=false
 | .bl b=>k=b
 | .int i=>k=(i != 0)
 | .str y=>y.length<=sizeLine/\k=((y.length:Int) != 0)
 | .byt y=>y.size<=sizeLine/\k=((y.size:Int) != 0)
 | .ref p=>(∃ xs,AZ K H p xs/\k = !xs.isEmpty)\/(∃ xs,Ay K H p xs/\k = !xs.isEmpty)\/∃ kvs,H p=some (.dK kvs)/\k = !kvs.isEmpty
 | _=>False
theorem NG {κ:Type} {kvs:List (κ × V)} {vs:List (κ × Value)} (r:KV kvs vs):(!vs.isEmpty) = !kvs.isEmpty:=by
 cases r <;> rfl
theorem Jk {xs:List V} {Av:List Value} (r:AF xs Av):(!Av.toArray.isEmpty) = !xs.isEmpty:=by
 cases r <;> simp
theorem F5:(sizeLine:Nat) < 2 ^ 63:=by rw [sizeLine_eq]; decide
theorem UG:TruR X (fun x H Q=>∃ k,TruV X.K x H k/\Q k H):=by
 intro pins s σ H x v Q I rx h;obtain ⟨k,e,q⟩:=h;have hl:=F5;have hs:sizeLine=16777216:=sizeLine_eq;cases x with
 | non=>
  cases rx
  have e':k=false:=e;subst e';exact truthy_none ⟨H,I,q⟩
 | bl b=>
  cases rx
  have e':k=b:=e;subst e';exact wpAny_truthy_bool ⟨H,I,q⟩
 | int i=>
  obtain ⟨t,rfl⟩:=rx;have e':k=(i != 0):=e;subst e';exact PySem.P.truthy_int ⟨H,I,q⟩
 | str y=>
  obtain ⟨t,rfl⟩:=rx;obtain ⟨hy,e'⟩:y.length<=sizeLine/\k=((y.length:Int) != 0):=e;subst e';exact PySem.P.truthy_str (by lia) ⟨H,I.tok _,q⟩
 | byt y=>
  obtain ⟨t,rfl⟩:=rx;obtain ⟨hy,e'⟩:y.size<=sizeLine/\k=((y.size:Int) != 0):=e;subst e';exact PySem.W.truthy_bytes (by lia) ⟨H,I.tok _,q⟩
 | ref p=>
  cases rx
  have e':(∃ xs,AZ X.K H p xs/\k = !xs.isEmpty)\/(∃ xs,Ay X.K H p xs/\k = !xs.isEmpty)\/∃ kvs,H p=some (.dK kvs)/\k = !kvs.isEmpty:=e;rcases e' with ⟨xs,hx,e'⟩ | ⟨xs,hx,e'⟩ | ⟨kvs,hx,e'⟩
  ·subst e';obtain ⟨Av,r,pl,hz⟩:=I.list hx;have hlen:=r.length;exact wpAny_truthy_list pl.isList (by simp only [ZU]; lia) ⟨H,I.tok _,by rw [Jk r]; exact q⟩
  ·subst e';obtain ⟨Av,r,pl,hz⟩:=I.tuple hx;have hlen:=r.length;exact truthy_tuple pl (by simp only [ZU]; lia) ⟨H,I.tok _,by rw [Jk r]; exact q⟩
  ·subst e';obtain ⟨hz,hS,vs,r,m⟩:kvs.length<=sizeLine/\(p == sysModules)=false/\∃ vs,KV kvs vs/\s.heap.DictOf (Bd X.prog X.w) p vs:=I.hok p _ hx;have hlen:kvs.length=vs.length:=Paired.length r;exact wpAny_truthy_dict hS m (by lia) ⟨H,I.tok _,by rw [NG r]; exact q⟩
 | _=>exact (show False from e).elim
theorem Rv (ha:PE X a ta) (he:∀ whole,isTrue a X.env whole=(do let v <- whole; standAt a.pos; holding [v] (truthy v))) :
  PT X a (fun σ H Q=>ta σ H fun x H'=>∃ k,TruV X.K x H' k/\Q k H'):=by
 intro pins s σ H Q I h;exact isTrue_plain (B0 (ha pins s σ H _ I h) fun v s1 ⟨x,H1,I1,r1,q1⟩=>UG pins s1 σ H1 x v Q I1 r1 q1) (he _)
theorem F4:EA X (binaryOp .Add) (fun x y H Q=>∃ i j,x=.str i/\y=.str j/\i.length + j.length<=sizeLine/\Q (.str (i ++ j)) H):=by
 intro pins s σ H x y v u Q I rx ry h;obtain ⟨i,j,rfl,rfl,hz,q⟩:=h;obtain ⟨t,rfl⟩:=rx;obtain ⟨t',rfl⟩:=ry;exact add_str (fun t' tk=>⟨.str (i ++ j),H,I.tok _,⟨_,rfl⟩,q⟩) hz
theorem Cj {x:V} {us:List Value} (r:AF [x] us):∃ u,us=[u]/\AM x u:=by
 cases r with
 | cons r1 r2=>cases r2; exact ⟨_,rfl,r1⟩
theorem Oh {x y:V} {us:List Value} (r:AF [x,y] us):∃ u w',us=[u,w']/\AM x u/\AM y w':=by
 cases r with
 | cons r1 r2=>
  cases r2 with
  | cons r3 r4=>cases r4; exact ⟨_,_,rfl,r1,r3⟩
theorem MM:Bn X (.builtin "abs") (fun xs H Q=>∃ i,xs=[.int i]/\Q (.int (if i < 0 then -i else i)) H):=by
 intro pins s σ H xs us Q I r h;obtain ⟨i,rfl,q⟩:=h;obtain ⟨u,rfl,t,rfl⟩:=Cj r;exact call_abs_int fun u tk=>⟨.int (if i < 0 then -i else i),H,I.tok _,⟨_,rfl⟩,q⟩
theorem Hc (hc:X.calm=true):Bn X (.builtin "max") (fun xs H Q=>∃ i j,xs=[.int i,.int j]/\Q (.int (if j > i then j else i)) H):=by
 intro pins s σ H xs us Q I r h;obtain ⟨i,j,rfl,q⟩:=h;obtain ⟨u,w',rfl,⟨t,rfl⟩,⟨t',rfl⟩⟩:=Oh r;refine max_two_ints (I.ok.hd hc) fun h' tk k=>⟨_,H,I.kept k,?_,q⟩
 by_cases hj:j > i
 ·rw [if_pos hj,if_pos hj]; exact ⟨_,rfl⟩
 ·rw [if_neg hj,if_neg hj]; exact ⟨_,rfl⟩
theorem GZ (hc:X.calm=true):Bn X (.builtin "min") (fun xs H Q=>∃ i j,xs=[.int i,.int j]/\Q (.int (if j < i then j else i)) H):=by
 intro pins s σ H xs us Q I r h;obtain ⟨i,j,rfl,q⟩:=h;obtain ⟨u,w',rfl,⟨t,rfl⟩,⟨t',rfl⟩⟩:=Oh r;refine min_two_ints (I.ok.hd hc) fun h' tk k=>⟨_,H,I.kept k,?_,q⟩
 by_cases hj:j < i
 ·rw [if_pos hj,if_pos hj]; exact ⟨_,rfl⟩
 ·rw [if_neg hj,if_neg hj]; exact ⟨_,rfl⟩
theorem Dl:Bn X (.type "int") (fun xs H Q=>(∃ i,xs=[.int i]/\Q (.int i) H)\/∃ k,xs=[.bl k]/\Q (.int (if k then 1 else 0)) H):=by
 intro pins s σ H xs us Q I r h;rcases h with ⟨i,rfl,q⟩ | ⟨k,rfl,q⟩
 ·obtain ⟨u,rfl,t,rfl⟩:=Cj r;exact call_int_int ⟨.int i,H,I,⟨_,rfl⟩,q⟩
 ·obtain ⟨u,rfl,r1⟩:=Cj r;cases r1
  exact call_int_bool ⟨.int (if k then 1 else 0),H,I.tok _,⟨_,rfl⟩,q⟩
end
structure VI (h:Heap) (x dx C:Addr) (mA:Str->Option Value):Prop where
 obj:h.get? x=some (dc C dx)
 ns:h.Ns1 dx mA
 ne:dx ≠ x
theorem Qd {h:Heap} {dx:Addr} {mA:Str->Option Value} (n:h.Ns1 dx mA):∃ od,h.get? dx=some od/\∀ name,dv name od=some (mA name):=by
 obtain ⟨o,es,ep,ho,hd,hk,_,hm⟩:=n;refine ⟨o,ho,fun name=>?_⟩;have e:=hm name;unfold nsFind findBy at e;rw [<-Array.find?_toList] at e;unfold dv;rw [hd];dsimp only;split
 ·rename_i y q
  rw [q] at e;exact congrArg some e
 ·rename_i q
  rw [q] at e;have a:es.toList.any (·.refKey)=false:=by
   rw [List.any_eq_false];intro y hy;obtain ⟨z,t,hkey⟩:=hk y (dZ.mp hy);simp [DictEntry.refKey,hkey]
  have a':¬ es.toList.any (·.refKey)=true:=by rw [a]; exact ZV
  rw [if_neg a'];exact congrArg some e
theorem VI.look {h:Heap} {x dx C:Addr} {mA:Str->Option Value} (I:VI h x dx C mA):∃ od,PySem.W.InstAt h x (dc C dx) C (some od)/\∀ name,dv name od=some (mA name):=
 let ⟨od,ho,hl⟩:=Qd I.ns
 ⟨od,⟨I.obj,rfl,rfl,ho⟩,hl⟩
section
variable {prog:Program} {w:World} {A:Around} {E:Value->Shared->Prop} {s:Shared} {K:ZD} {x dx C f:Addr} {mA:Str->Option Value} {name:Str} {v:Value}
end
theorem Hd.some_of {v:V} {o:Option Value} (r:Hd (some v) o):∃ u,o=some u/\AM v u:=by
 cases o with
 | none=>exact (show False from r).elim
 | some u=>exact ⟨u,rfl,r⟩
section
variable {P:Program} {w:World} {H H':Hp} {h h':Heap} {a C dx:Addr} {fs Wd:List (Str × V)}
theorem Th (hok:FE P w H h) (e:H a=some (.ins C dx fs)):∃ mA,VI h a dx C mA/\(∀ f,Hd (fs.lookup f) (mA f))/\PySem.Within mA (fs.map (·.1))/\fs.length<=1000/\H dx=some (.own a):=by
 obtain ⟨d,z,ne,ob,mA,n,r,q⟩:=(show AV P w H h a (.ins C dx fs) from hok a _ e)
 exact ⟨mA,⟨ob,n,ne⟩,r,q,z,d⟩
end
structure Cls (K:ZD) (C:Addr):Prop where
 pg:eM K C Str.empty=true
 hd:PySem.W.hasDictIn K C=true
 po:PySem.W.plainOver K C=true
 sa:eY K (.ref C) "__setattr__"=some (some (.builtin "object.__setattr__"))
theorem Cls.get {K:ZD} {C:Addr} (c:Cls K C) (f:Str):eM K C f=true:=c.pg
section
variable {X:Cx} {pins:List (Addr × Obj)} {σ:St} {H:Hp} {s:Shared} {a C dx:Addr} {fs:List (Str × V)} {f:Str} {v:V} {A:Around} {E:Value->Shared->Prop}
end
section
variable {X:Cx} {o e value:Expr} {f:Str} {pos pos' tpos:Pos} {ta tv:TE}
end
section
variable {X:Cx} {pins:List (Addr × Obj)} {σ:St} {H:Hp} {s:Shared} {A:Around} {E:Value->Shared->Prop} {Q:Value->Shared->Prop} {c:Value} {b:Bool}
inductive D5 (K:ZD) (H:Hp):V->Value->Prop where
 | non:D5 K H .non (.type "NoneType")
 | bl (x:Bool):D5 K H (.bl x) (.type "bool")
 | int (i:Int):D5 K H (.int i) (.type "int")
 | str (x:Str):D5 K H (.str x) (.type "str")
 | flt (x:UInt64):D5 K H (.flt x) (.type "float")
 | lst {a:Addr} {xs:List V} (e:H a=some (.lst xs)):D5 K H (.ref a) (.type "list")
 | frz {a:Addr} {o:Obj} {xs:List V} (e:H a=some (.frz o (.lst xs))):D5 K H (.ref a) (.type "list")
 | tup {a:Addr} {xs:List V} (e:H a=some (.tup xs)):D5 K H (.ref a) (.type "tuple")
 | dK {a:Addr} {kvs:List (Bj × V)} (e:H a=some (.dK kvs)):D5 K H (.ref a) (.type "dict")
 | dT {a:Addr} {kvs:List (List Bj × V)} (e:H a=some (.dT kvs)):D5 K H (.ref a) (.type "dict")
 | ins {a C dx:Addr} {fs:List (Str × V)} (e:H a=some (.ins C dx fs)) (cl:Cls K C) (ha:eY K (.ref C) "__class__"=some (some (.builtin "object.__class__")))
   (hn:PySem.W.specialIn K (.builtin "object.__class__") "__get__"=some (some (.builtin "getset_descriptor.__get__"))) (htk:PySem.W.takesIn K (.builtin "object.__class__")=some true)
   (hm:PySem.W.mroIn K C (.type "object")=some true):D5 K H (.ref a) (.ref C)
theorem Qi {x:V} {u t:Value} (I:Au X pins σ H s) (rx:AM x u) (ty:D5 X.K H x t) (e:bL X.K t c=some b) (h:∀ tk,Q (.bool b) { s with toks:=tk }) :
  wpAny (model X.prog X.w) A (call (.builtin "isinstance") [u,c]) Q E s:=by
 cases ty with
 | non=>cases (show u=Value.none from rx); exact aY PySem.W.kitx_none I.kIn True.intro e (fun z=>nomatch z) h
 | bl y=>cases (show u=Value.bool y from rx); exact aY PySem.W.kitx_bool I.kIn True.intro e (fun z=>nomatch z) h
 | int i=>obtain ⟨t,q⟩:=(show ∃ t,u=Value.int i t from rx); cases q; exact aY PySem.W.kitx_int I.kIn True.intro e (fun z=>nomatch z) h
 | str y=>obtain ⟨t,q⟩:=(show ∃ t,u=Value.str y t from rx); cases q; exact aY PySem.W.kitx_str I.kIn True.intro e (fun z=>nomatch z) h
 | flt y=>obtain ⟨t,q⟩:=(show ∃ t,u=Value.float y t from rx); cases q; exact aY PySem.W.kitx_float I.kIn True.intro e (fun z=>nomatch z) h
 | @lst a xs ea=>
  cases (show u=Value.ref a from rx)
  obtain ⟨_,_,n,_,h1⟩:=(show AV X.prog X.w H s.heap a (.lst xs) from I.hok a _ ea)
  exact aY eD I.kIn ⟨_,h1,rfl⟩ e (fun z=>nomatch z) h
 | @frz a ob xs ea=>
  cases (show u=Value.ref a from rx)
  obtain ⟨_,_,_,n,_,h1⟩:=(show AV X.prog X.w H s.heap a (.frz ob (.lst xs)) from I.hok a _ ea)
  exact aY eD I.kIn ⟨_,h1,rfl⟩ e (fun z=>nomatch z) h
 | @tup a xs ea=>
  cases (show u=Value.ref a from rx)
  obtain ⟨_,_,_,p,_⟩:=(show AV X.prog X.w H s.heap a (.tup xs) from I.hok a _ ea)
  obtain ⟨o,h1,h2,_⟩:=p;exact aY PySem.W.kitx_tuple I.kIn ⟨o,h1,h2⟩ e (fun z=>nomatch z) h
 | @dK a kvs ea=>
  cases (show u=Value.ref a from rx)
  obtain ⟨_,_,vs,_,p⟩:=(show AV X.prog X.w H s.heap a (.dK kvs) from I.hok a _ ea)
  obtain ⟨o,es,ep,h1,h2,_⟩:=p;exact aY eE I.kIn ⟨o,h1,h2.1⟩ e (fun z=>nomatch z) h
 | @dT a kvs ea=>
  cases (show u=Value.ref a from rx)
  obtain ⟨_,_,xs,_,o,es,ep,h1,h2,_⟩:=(show AV X.prog X.w H s.heap a (.dT kvs) from I.hok a _ ea)
  exact aY eE I.kIn ⟨o,h1,h2.1⟩ e (fun z=>nomatch z) h
 | @ins a C dx fs ea cl ha hn htk hm=>
  cases (show u=Value.ref a from rx)
  obtain ⟨mA,O,_⟩:=Th I.hok ea;obtain ⟨od,J,_⟩:=O.look;exact aY (PySem.W.kitx_own (cl.get _) cl.hd ha hn htk hm) I.kIn J e (fun z=>nomatch z) h
end
structure Ex (k:Nat) (A:Around):Prop where
 hd:A.handled=none
 dp:A.depth + 3 * k + 5 < recursionLimit
 un:A.units + 16 * k + 200 < cLine
 gd:A.guards=some []:=by rfl
theorem Ex.mono {j k:Nat} {A:Around} (r:Ex k A) (h:j<=k):Ex j A:=⟨r.hd,by have:=r.dp; lia,by have:=r.un; lia,r.gd⟩
theorem Ex.deeper {k:Nat} {A:Around} (r:Ex (k + 1) A) (env:Env):Ex k (A.deeper env):=
 ⟨r.hd,by have:=r.dp; show A.depth + 1 + 3 * k + 5 < _; lia,by have:=r.un; show A.units + 3 + 16 * k + 200 < _; lia,r.gd⟩
theorem Ex.depth {k:Nat} {A:Around} (r:Ex k A):A.depth < recursionLimit:=by have:=r.dp; lia
theorem Ex.units {k:Nat} {A:Around} (r:Ex k A):A.units + 64 < cLine:=by have:=r.un; lia
def tNil:TA:=fun _ H Q=>Q [] H
def tCons (ta:TE) (tr:TA):TA:=fun σ H Q=>ta σ H fun x H1=>tr σ H1 fun xs H2=>Q (x :: xs) H2
section
variable {X:Cx} {e:Expr} {es:List Expr} {te:TE} {t:TA} {pos:Pos}
theorem Ac:PA X [] tNil:=fun _ _ _ _ H Q I h=>Calls.spliced_nil ⟨[],H,I,.nil,h⟩
theorem Aa (ha:PE X e te) (hr:PA X es t) (hs:starEach (e :: es) X.env=(false,eval e X.env) :: starEach es X.env:=by rfl):PA X (e :: es) (tCons te t):=by
 intro pos pins s σ H Q I h;rw [hs];show wpAny _ _ (spliced ((false,eval e X.env) :: backTo pos (starEach es X.env))) _ _ s
 refine Calls.spliced_cons (B0 (ha pins s σ H _ I h) fun u s1 ⟨x,H1,I1,r1,q1⟩=>?_);exact B0 (hr pos pins s1 σ H1 _ I1 q1) fun us s2 ⟨xs,H2,I2,r2,q2⟩=>⟨x :: xs,H2,I2,.cons r1 r2,q2⟩
def tTup (t:TA):TE:=fun σ H Q=>t σ H fun xs H1=>xs.length<=sizeLine/\∀ p,H1 p=none->Q (.ref p) (upd H1 p (.tup xs))
def tLst (t:TA):TE:=fun σ H Q=>t σ H fun xs H1=>xs.length<=sizeLine/\∀ p,H1 p=none->Q (.ref p) (upd H1 p (.lst xs))
theorem AH {x1} (h:PA X es t):PE X (.Tuple es x1 pos) (tTup t):=by
 intro pins s σ H Q I hq;refine wpAny_Tuple_spliced (B0 (h pos pins s σ H _ I hq) fun us s1 ⟨xs,H1,I1,r,z,q⟩=>⟨by rw [<-r.length]; exact z,?_⟩);have hf:H1 s1.heap.objs.size=none:=I1.hok.fresh (ZJ _);refine ⟨.ref s1.heap.objs.size,upd H1 s1.heap.objs.size (.tup xs),I1.laid (t':=s1.toks) (fun b u e=>ZC _ e) (ZJ _) ?_,rfl,q _ hf⟩;exact ⟨z,us,r,⟨_,ZM _ rfl,rfl,_,rfl⟩,MP.new rfl rfl⟩
theorem Bw (h:PA X es t):PE X (.List es pos) (tLst t):=by
 intro pins s σ H Q I hq;refine wpAny_List_spliced (B0 (h pos pins s σ H _ I hq) fun us s1 ⟨xs,H1,I1,r,z,q⟩=>⟨by rw [<-r.length]; exact z,?_⟩);have hf:H1 s1.heap.objs.size=none:=I1.hok.fresh (ZJ _);refine ⟨.ref s1.heap.objs.size,upd H1 s1.heap.objs.size (.lst xs),I1.laid (t':=s1.toks) (fun b u e=>ZC _ e) (ZJ _) ?_,rfl,q _ hf⟩;exact ⟨z,us,0,r,ZM _ rfl⟩
end
abbrev Sp:=List V->Hp->VK->XK->Prop
abbrev Sl:=List Env->Hp->Shared->XK->Value->Shared->Prop
structure TM (P:Program) (w:World) (K:ZD) (mg:Str->Option Value) (base:Heap) (A:Around) (outer:List Env) (s:Shared) (H:Hp):Prop where
 frames:A.frames=some outer
 mod:Mod K mg base
 bs:∀ b o,base.get? b=some o->s.heap.get? b=some o/\H b=none
 bsz:base.objs.size<=s.heap.objs.size
 funs:s.heap.FunFrames base outer
 frf:∀ b ∈ RU outer,H b=none
 hok:FE P w H s.heap
 bare:AllBare s.gens
def CE (outer:List Env) (P:Program) (w:World) (H:Hp) (s:Shared) (Q:VK) (u:Value) (s':Shared):Prop:=
 ∃ v H',s'.os=s.os/\AllBare s'.gens/\Un (RU outer) [] H H' s.heap s'.heap/\FE P w H' s'.heap/\AM v u/\Q v H'
def CR (CX:Sl) (outer:List Env) (P:Program) (w:World) (H:Hp) (s:Shared) (Q:VK) (E:XK) (r:Result) (s':Shared):Prop:=
 match r with
 | .ok (.ret u)=>CE outer P w H s Q u s'
 | .ok _=>False
 | .error e=>CX outer H s E e s'
structure A8 (P:Program) (w:World) (K:ZD) (mg:Str->Option Value) (base:Heap) (CX:Sl) (k:Nat) (f:Addr) (fd:FuncData) (ps:List Str) (sp:Sp):Prop where
 len:∀ vs H Q E,sp vs H Q E->vs.length=ps.length
 run:∀ (A:Around) (outer:List Env) (s:Shared) (H:Hp) (args:Args) (us:List Value) (vs:List V) (Q:VK) (E:XK),Ex k A->TM P w K mg base A outer s H->BindsTo s fd args (ps.zip us)->AF vs us->sp vs H Q E ->
  codeAny (model P w) A (.call (.ref f) args) (CR CX outer P w H s Q E) s
section
variable {X:Cx} {pins:List (Addr × Obj)} {σ:St} {H:Hp} {s s':Shared}
theorem Au.env0 (I:Au X pins σ H s):TM X.prog X.w X.K X.mg X.base X.A X.stack s H:=
 ⟨I.ok.frames,I.ok.mod,I.bs,aj I.ok.bsz I.sz,I.stack,I.stkFree,I.hok,I.bare⟩
theorem Au.after {Q:VK} {u:Value} (I:Au X pins σ H s) (h:CE X.stack X.prog X.w H s Q u s'):EP X pins σ Q u s':=by
 obtain ⟨v,H',os,bare,un,hok,r,q⟩:=h;obtain ⟨hh,g,d,t,YF⟩:=s';obtain rfl:YF=s.os:=os;exact ⟨v,H',I.call (h':=hh) (g':=g) (d':=d) (t':=t) (ch:=[]) un hok bare (fun b z=>absurd z (by simp)),r,q⟩
end
def tCall (sp:Sp) (dvs:List V) (E:XK) (t:TA):TE:=fun σ H Q=>t σ H fun vs H1=>sp (vs ++ dvs) H1 Q E
def HM (K:ZD) (fd:FuncData) (ps:List Str) (ds:List Value):Prop:=
 ∀ (s:Shared) (us:List Value),K.In s.heap->(us ++ ds).length=ps.length->BindsTo s fd ⟨us,[]⟩ (ps.zip (us ++ ds))
theorem HM.all {K:ZD} {fd:FuncData} {ps:List Str} (h:∀ us:List Value,us.length=ps.length->bindArgs fd ⟨us,[]⟩=pure (ps.zip us)):HM K fd ps []:=fun s us _ hl=>by
 rw [bV] at hl ⊢;exact .of_eq (h us hl)
def NX (CX:Sl) (X:Cx) (E:XK):Prop:=∀ (pins:List (Addr × Obj)) (σ:St) (H:Hp) (s:Shared) (e:Value) (s':Shared),Au X pins σ H s->CX X.stack H s E e s'->X.xe e s'
section
variable {X:Cx} {CX:Sl} {k:Nat} {f C:Addr} {fd:FuncData} {ps:List Str} {sp:Sp} {dvs:List V} {ds:List Value} {E:XK} {x m:Str} {p pos apos:Pos} {e o:Expr} {es:List Expr} {ta:TE} {t:TA}
theorem UU {pins:List (Addr × Obj)} {σ:St} {H:Hp} {s:Shared} {Q:VK} {us:List Value} {vs:List V} (F:A8 X.prog X.w X.K X.mg X.base CX k f fd ps sp) (hr:Ex k X.A) (hb:HM X.K fd ps ds) (hd:AF dvs ds) (hx:NX CX X E)
  (I:Au X pins σ H s) (r:AF vs us) (h:sp (vs ++ dvs) H Q E):wpAny (model X.prog X.w) X.A (call (.ref f) us) (EP X pins σ Q) X.xe s:=by
 have r2:AF (vs ++ dvs) (us ++ ds):=r.append hd;have hl:(us ++ ds).length=ps.length:=by rw [<-r2.length]; exact F.len _ _ _ _ h
 refine wpAny_call (codeAny_mono (F.run X.A X.stack s H ⟨us,[]⟩ (us ++ ds) (vs ++ dvs) Q E hr I.env0 (hb s us I.kIn hl) r2 h) fun r s' hq=>?_);cases r with
 | error e=>exact hx pins σ H s e s' I hq
 | ok fl=>
  cases fl with
  | ret u=>exact I.after hq
  | next=>exact False.elim hq
  | brk=>exact False.elim hq
  | cont=>exact False.elim hq
theorem Am (F:A8 X.prog X.w X.K X.mg X.base CX k f fd ps sp) (hr:Ex k X.A) (hg:Gl X x) (hm:X.mg x=some (.ref f)) (hk:cE X.K (.ref f)=true) (hb:HM X.K fd ps ds) (hd:AF dvs ds) (hx:NX CX X E)
  (ha:PA X (e :: es) t) (hdb:(x == ("__debug__":Str))=false:=by decide) (he:starEach (e :: es) X.env=(false,eval e X.env) :: starEach es X.env:=by rfl) (hpl:(backTo pos (starEach es X.env)).any (·.1)=false:=by rfl) :
  PE X (.Call (.Name x p) (e :: es) [] pos) (tCall sp dvs E t):=by
 intro pins s σ H Q I h;refine wpAny_Call_Name_kw (OE I hg hm ?_ hdb);refine PySem.W.callWith_K (h₀:=X.base) I.ok.mod.kin hk (B0 (ha pos pins s σ H _ I h) fun us s1 ⟨vs,H1,I1,r,q⟩=>⟨I1.kIn,?_⟩) he hpl;exact UU F hr hb hd hx I1 r q
end
section
variable {X:Cx} {CX:Sl} {k:Nat} {f C:Addr} {fd:FuncData} {ps ks:List Str} {sp:Sp} {E:XK} {x m:Str} {p pos apos kpos:Pos} {e o:Expr} {es:List Expr} {kws:List Keyword} {te ta:TE} {t tk:TA} {nm:Option Str}
variable {g:List Value->List Value->List Value} {gV:List V->List V->List V}
end
structure A2 (N P:List Str) (sc:Scope):Prop where
 kind:sc.kind=.function
 co:sc.isCoroutine=false
 gen:sc.isGenerator=false
 nd:N.Nodup
 pre:N.take P.length=P
 par:∀ x ∈ P,sc.names.lookup x=some .local\/sc.names.lookup x=some .cell
 nofree:∀ y ∈ sc.names,y.2 ≠ .free
theorem K8 {kindOf:Str->Option NameKind} {x:Str}:∀ {binds:List (Str × Value)} {m:Str->Option Value},(∀ v,(x,v) ∉ binds)->bindL kindOf binds m x=m x
 | [],_,_=>rfl
 | (n,v) :: r,m,h=>by
  unfold bindL;rw [K8 fun w hw=>h w (ZW _ hw)];split
  ·have:x ≠ n:=by rintro rfl; exact h v ae
   simp [this]
  ·rfl
theorem KA {kindOf:Str->Option NameKind} {x:Str}:∀ {binds:List (Str × Value)} {m:Str->Option Value},(∀ v,(x,v) ∉ binds)->bindC kindOf binds m x=m x
 | [],_,_=>rfl
 | (n,v) :: r,m,h=>by
  unfold bindC;rw [KA fun w hw=>h w (ZW _ hw)];split
  ·rfl
  ·have:x ≠ n:=by rintro rfl; exact h v ae
   simp [this]
theorem K9 {kindOf:Str->Option NameKind} {x:Str} {v:Value}:∀ {P:List Str} {vs:List Value} {i:Nat} {m:Str->Option Value},P.Nodup->P[i]? = some x->vs[i]? = some v->kindOf x=some .local ->
  bindL kindOf (P.zip vs) m x=some v
 | [],_,_,_,_,h,_,_=>by simp at h
 | _ :: _,[],_,_,_,_,h,_=>by simp at h
 | p :: P,w :: vs,0,m,nd,h1,h2,hk=>by
  simp at h1 h2; subst h1; subst h2;show bindL kindOf ((p,w) :: P.zip vs) m p=_
  unfold bindL;rw [K8 fun v hv=>(aM.mp nd).1 (cF hv).1,if_pos hk];simp
 | p :: P,w :: vs,i + 1,m,nd,h1,h2,hk=>by
  show bindL kindOf ((p,w) :: P.zip vs) m x=_
  unfold bindL;exact K9 (i:=i) (aM.mp nd).2 (by simpa using h1) (by simpa using h2) hk
theorem KC {kindOf:Str->Option NameKind} {x:Str} {v:Value}:∀ {P:List Str} {vs:List Value} {i:Nat} {m:Str->Option Value},P.Nodup->P[i]? = some x->vs[i]? = some v->kindOf x ≠ some .local ->
  bindC kindOf (P.zip vs) m x=some v
 | [],_,_,_,_,h,_,_=>by simp at h
 | _ :: _,[],_,_,_,_,h,_=>by simp at h
 | p :: P,w :: vs,0,m,nd,h1,h2,hk=>by
  simp at h1 h2; subst h1; subst h2;show bindC kindOf ((p,w) :: P.zip vs) m p=_
  unfold bindC;rw [KA fun v hv=>(aM.mp nd).1 (cF hv).1,if_neg hk];simp
 | p :: P,w :: vs,i + 1,m,nd,h1,h2,hk=>by
  show bindC kindOf ((p,w) :: P.zip vs) m x=_
  unfold bindC;exact KC (i:=i) (aM.mp nd).2 (by simpa using h1) (by simpa using h2) hk
def start (N:List Str) (vs:List V):St:=vs.map some ++ fQ (N.length - vs.length) none
def NS (CX:Sl) (P:Program) (w:World) (K:ZD) (mg:Str->Option Value) (base:Heap) (N:List Str) (qual:Str) (scope:Scope) (f:Addr) (cd:Value) (A:Around) (outer:List Env) (s:Shared) (H:Hp) (E:XK):Cx where
 prog:=P
 w:=w
 K:=K
 mg:=mg
 base:=base
 A:=A.deeper (envOfC qual scope s.heap.objs.size f cd)
 N:=N
 s₀:=s
 H₀:=H
 env:=envOfC qual scope s.heap.objs.size f cd
 outer:=outer
 stack:=envOfC qual scope s.heap.objs.size f cd :: outer
 ex:=[]
 calm:=true
 fn:=fun _=>true
 pn:=[]
 xe:=fun e s'=>wpAny (model P w) (A.deeper (envOfC qual scope s.heap.objs.size f cd)) (leaving (envOfC qual scope s.heap.objs.size f cd) e) (fun _ UT=>CX outer H s E e UT) (fun e' UT=>CX outer H s E e' UT) s'
theorem MK {sc:Scope} {n:Nat} {x:Str} (h:sc.names.lookup x=some .cell):∃ c,(cellsFrom n sc.names []).lookup x=some c:=by
 have q:=dJ sc.names n [] (.inl h);exact cj.mp q
theorem Qj {CX:Sl} {P:Program} {w:World} {K:ZD} {mg:Str->Option Value} {base:Heap} {N ps:List Str} {qual:Str} {scope:Scope} {f:Addr} {cd:Value} {A:Around} {outer:List Env} {s s1:Shared} {H:Hp} {E:XK} {us:List Value} {vs:List V}
  (S:A2 N ps scope) (hd:A.handled=none) (e0:TM P w K mg base A outer s H) (hl:vs.length=ps.length) (r:AF vs us)
  (x:InCallC s s.heap.objs.size (bindL (envOfC qual scope s.heap.objs.size f cd).kindOf (ps.zip us) fun _=>none) (cellsFrom (s.heap.objs.size + 1) scope.names []) (bindC (envOfC qual scope s.heap.objs.size f cd).kindOf (ps.zip us) fun _=>none) s1) :
  Au (NS CX P w K mg base N qual scope f cd A outer s H E) [] (start N vs) H s1:=by
 have hpl:ps.length<=N.length:=by have:=congrArg b9 S.pre; rw [ah] at this; lia
 obtain ⟨h1,tk,rfl,hk⟩:=x.done;have noA:∀ b:Addr,b ∉ (NS CX P w K mg base N qual scope f cd A outer s H E).ex:=fun b z=>absurd (show b ∈ ([]:List Addr) from z) (by simp)
 refine ⟨⟨e0.mod,S.kind,rfl,rfl,ZJ _,fun y z c h1 h2=>?_,fun y hy=>?_,fun y c _ h=>?_,fun _=>hd,Around.frames_deeper e0.frames,.inr ⟨rfl,rfl⟩,fun b z=>absurd z (noA b),e0.bs,e0.bsz,fun b _ _=>noA b,fun b z=>absurd z (noA b),e0.funs,e0.frf⟩,
  rfl,e0.bare,Un.kept hk,⟨_,x.toInCall.ns,fun i y v h1 h2 h3=>?_⟩,fun y c h=>⟨_,x.cell y c h⟩,e0.hok.fresh (ZJ _),fun y c h=>?_,fun p hp=>absurd (show p ∈ ([]:List (Addr × Obj)) from hp) (by simp),e0.hok.kept hk,?_⟩
 ·exact name_of_addr x.apart (PySem.mem_of_lookup h1) (PySem.mem_of_lookup h2)
 ·have hy:scope.names.lookup y=some .cell\/scope.names.lookup y=some .free:=hy;rcases hy with hy | hy
  ·exact MK hy
  ·exact absurd rfl (S.nofree _ (PySem.mem_of_lookup hy))
 ·exact dY (x.above y c (PySem.mem_of_lookup h))
 ·have hi:i < vs.length:=by
   unfold start at h2;by_cases hi:i < vs.length
   ·exact hi
   ·rw [ay (by simpa using hi)] at h2;rw [List.getElem?_replicate] at h2;split at h2 <;> cases h2
  have ha:vs[i]? = some v:=by
   unfold start at h2;rw [aF (by simpa using hi),ZL] at h2;cases e:vs[i]? with
   | none=>rw [e] at h2; cases h2
   | some a=>rw [e] at h2; cases h2; rfl
  obtain ⟨u,hu,rv⟩:=r.get ha;have hp:ps[i]? = some y:=by
   rw [<-S.pre,dN (by lia)]; exact h1
  have ndP:ps.Nodup:=by rw [<-S.pre]; exact S.nd.sublist (eZ _ _)
  exists u,rv;rcases S.par y (ZE hp) with k | k
  ·exact .inl ⟨k,K9 ndP hp hu k⟩
  ·obtain ⟨c,e⟩:=MK (n:=s.heap.objs.size + 1) k;refine .inr ⟨.inl k,c,e,?_⟩;have q:=x.cell y c e;rw [KC ndP hp hu (by show scope.names.lookup y ≠ _; rw [k]; decide)] at q;exact q
 ·exact e0.hok.fresh (dY (x.above y c (PySem.mem_of_lookup h)))
 ·unfold start;show _=N.length
  rw [ZH,ZA,List.length_replicate];lia
theorem fn_of {CX:Sl} {P:Program} {w:World} {K:ZD} {mg:Str->Option Value} {base:Heap} {k:Nat} {f:Addr} {name qual:Str} {params:Arguments} {body:List Stmt} {scope:Scope} {dV kV doc pm cdv ct oc:Value} {an od:Option Addr}
  {osl:Array (Option Value)} {N ps:List Str} {sp:Sp} (lk:K.lookup f=some ⟨oc,od,.func (bp name qual params body scope dV kV doc pm an cdv ct),osl⟩) (hcd:cG K cdv qual=true) (S:A2 N ps scope)
  (len:∀ vs H Q E,sp vs H Q E->vs.length=ps.length)
  (hbody:∀ (A:Around) (outer:List Env) (s:Shared) (H:Hp) (vs:List V) (Q:VK) (E:XK),Ex k (A.deeper (envOfC qual scope s.heap.objs.size f cdv))->sp vs H Q E ->
   ∃ t,OP (NS CX P w K mg base N qual scope f cdv A outer s H E) body t/\t { nx:=fun _ H'=>Q .non H',rt:=Q } (start N vs) H) :
  A8 P w K mg base CX (k + 1) f (bp name qual params body scope dV kV doc pm an cdv ct) ps sp:=by
 refine ⟨len,fun A outer s H args us vs Q E hr e0 hb r hsp=>?_⟩;have hl:=len _ _ _ _ hsp;have KX:K.In s.heap:=e0.mod.kin.keeps fun b o e=>(e0.bs b o e).1
 have lim:s.heap.NoLimit:=e0.mod.nolimit.keeps fun b o e=>(e0.bs b o e).1
 have hkind:∀ y ∈ ps.zip us,scope.names.lookup y.1=some .local\/(scope.names.lookup y.1=some .cell/\((cellsFrom (s.heap.objs.size + 1) scope.names []).lookup y.1).isSome=true):=fun ⟨n,v⟩ hy=>by
  rcases S.par n (cF hy).1 with q | q
  ·exact .inl q
  ·exact .inr ⟨q,dJ _ _ _ (.inl q)⟩
 refine codeAny_call_function hr.depth (KX _ _ lk) rfl S.co S.gen rfl (PySem.W.codeRec_of KX hcd) (hb _ _ _ _ ?_);refine wpAny_newFunctionEnv_cells S.kind hkind fun env he s1 x=>?_
 subst he;refine ⟨lim.keeps x.toInCall.keep,codeAny_func ?_⟩;obtain ⟨t,ht,hq⟩:=hbody A outer s H vs Q E (hr.deeper _) hsp;have I:Au (NS CX P w K mg base N qual scope f cdv A outer s H E) [] (start N vs) H s1:=Qj S hr.hd e0 hl r x;refine wpAny_mono (ht [] s1 (start N vs) H _ I hq) (fun fl s' hs=>?_) fun e s' hs=>hs
 have fin:∀ {Aw:St} {H':Hp} {v:V} {u:Value},Au (NS CX P w K mg base N qual scope f cdv A outer s H E) [] Aw H' s'->AM v u->Q v H'->CE outer P w H s Q u s':=
  fun {Aw H' v u} J rv q=>⟨v,H',J.os,J.bare,J.base,J.hok,rv,q⟩
 cases fl with
 | ret u=>
  obtain ⟨v,Aw,H',J,rv,q⟩:=hs;exact fin J rv q
 | next=>
  obtain ⟨Aw,H',J,q⟩:=hs;exact fin (v:=V.non) (u:=Value.none) J rfl q
 | brk=>
  obtain ⟨_,_,_,q⟩:=hs;exact False.elim q
 | cont=>
  obtain ⟨_,_,_,q⟩:=hs;exact False.elim q
section
variable {X:Cx} {x:Str} {p pos:Pos} {e:Expr} {es:List Expr} {t:TA} {id T:String} {r:List V->Hp->VK->Prop}
def tCB (r:List V->Hp->VK->Prop) (t:TA):TE:=fun σ H Q=>t σ H fun vs H1=>r vs H1 Q
theorem Ak (hc:Bn X (.builtin id) r) (hg:Gl X x) (hm:X.mg x=none) (hv:bootBuiltins x=some (.builtin id)) (ha:PA X (e :: es) t) (hn:x ≠ "__name__":=by decide) (hdb:(x == ("__debug__":Str))=false:=by decide)
  (he:starEach (e :: es) X.env=(false,eval e X.env) :: starEach es X.env:=by rfl) (hpl:(backTo pos (starEach es X.env)).any (·.1)=false:=by rfl):PE X (.Call (.Name x p) (e :: es) [] pos) (tCB r t):=by
 intro pins s σ H Q I h;refine wpAny_Call_Name_kw (GK I hg hm hv ?_ hn hdb);exact PyProof.Rows.callWith_builtin1 (B0 (ha pos pins s σ H _ I h) fun us s1 ⟨vs,H1,I1,r1,q1⟩=>hc pins s1 σ H1 vs us Q I1 r1 q1) he hpl
theorem AA (hc:Bn X (.type T) r) (hg:Gl X x) (hm:X.mg x=none) (hv:bootBuiltins x=some (.type T)) (ha:PA X (e :: es) t) (hn:x ≠ "__name__":=by decide) (hdb:(x == ("__debug__":Str))=false:=by decide)
  (he:starEach (e :: es) X.env=(false,eval e X.env) :: starEach es X.env:=by rfl) (hpl:(backTo pos (starEach es X.env)).any (·.1)=false:=by rfl):PE X (.Call (.Name x p) (e :: es) [] pos) (tCB r t):=by
 intro pins s σ H Q I h;refine wpAny_Call_Name_kw (GK I hg hm hv ?_ hn hdb);exact PyProof.Rows.callWith_type1 (B0 (ha pos pins s σ H _ I h) fun us s1 ⟨vs,H1,I1,r1,q1⟩=>hc pins s1 σ H1 vs us Q I1 r1 q1) he hpl
end
end L2
namespace HT
open PySem PyProof.Rows
section
open PySem.SeqAt
open PySem.AutoSeq1 (wpAny_loadPart')
open PySem.MeetsSeq PySem.MeetsSeq2 PySem.MeetsSeq3
end
section
variable {prog:Program} {w:World} {A:Around} {E:Value->Shared->Prop} {s:Shared}
theorem cat_tup {t b:Addr} {vs ws:List Value} {Q:Value->Shared->Prop} (ht:IsTup s.heap t vs.toArray) (hb:IsTup s.heap b ws.toArray) (hv:vs ≠ [])
  (h1:ws=[]->Q (.ref t) s) (h2:ws ≠ []->Q (.ref s.heap.objs.size) { s with heap:=s.heap.push { cls:=.type "tuple",data:=.seq (vs ++ ws).toArray } })
  (hsz:vs.length + ws.length<=sizeLine):wpAny (model prog w) A (binaryOp .Add (.ref t) (.ref b)) Q E s:=by
 obtain ⟨⟨cls,dd,data,sl⟩,ho,hc,n,hd⟩:=id ht;obtain ⟨⟨Xp,Ss,data2,TZ⟩,Sn,So,n2,hd2⟩:=id hb;simp only at hc hd So hd2;subst hc hd So hd2;have e:vs.toArray ++ ws.toArray=(vs ++ ws).toArray:=by simp
 by_cases hw:ws=[]
 ·exact concat_meets ⟨_,ho,rfl⟩ ⟨_,Sn,rfl⟩ noFill_tuple_add seq_tuple_add PySem.F.slot_tuple_add PySem.F.entry_tuple_add (PySem.F.args_tuple_add_2 _ _)
   (tuple_addW1 t b vs.toArray ws.toArray n n2 dd Ss sl TZ (by simpa using hv) (by simp [hw])) ⟨ho,Sn,h1 hw⟩
 ·refine concat_meets ⟨_,ho,rfl⟩ ⟨_,Sn,rfl⟩ noFill_tuple_add seq_tuple_add PySem.F.slot_tuple_add PySem.F.entry_tuple_add (PySem.F.args_tuple_add_2 _ _)
   (tuple_addW2 t b vs.toArray ws.toArray n n2 dd Ss sl TZ (by simpa using hv) (by simpa using hw) (by rw [ZU,ZU]; exact hsz)) ⟨ho,Sn,?_⟩
  rw [e];exact h2 hw
def sIx (n d:Nat):Option Int->Nat
 | none=>d
 | some v=>if v < 0 then (v + (n:Int)).toNat else min v.toNat n
theorem sIx_nat (n d k:Nat):sIx n d (some (k:Int))=min k n:=by
 show (if (k:Int) < 0 then ((k:Int) + (n:Int)).toNat else min (k:Int).toNat n)=min k n
 rw [if_neg (by lia),cq]
theorem US (n d:Nat) (hd:d<=n) (o:Option Int):sIx n d o<=n:=by
 cases o with
 | none=>exact hd
 | some v=>
  show (if v < 0 then (v + (n:Int)).toNat else min v.toNat n)<=n
  by_cases hv:v < 0
  ·rw [if_pos hv]; lia
  ·rw [if_neg hv]; exact Nat.min_le_right _ _
theorem OO (v:Int) (n d:Nat):(if v < 0 then max (v + (n:Int)) 0 else min v (n:Int))=((sIx n d (some v):Nat):Int):=by
 show (if v < 0 then max (v + (n:Int)) 0 else min v (n:Int))=(((if v < 0 then (v + (n:Int)).toNat else min v.toNat n):Nat):Int)
 by_cases hv:v < 0
 ·simp only [if_pos hv]; lia
 ·simp only [if_neg hv]; lia
theorem NU (lo hi:Option Int) (n:Nat):Builtin.Slice.sliceAdjust lo hi 1 (n:Int)=(((sIx n 0 lo:Nat):Int),((sIx n n hi:Nat):Int)):=by
 have h1:¬ ((1:Int) < 0):=by lia
 unfold Builtin.Slice.sliceAdjust;simp only [h1,if_false];refine Prod.ext ?_ ?_
 ·cases lo with
  | none=>rfl
  | some v=>exact OO v n 0
 ·cases hi with
  | none=>rfl
  | some v=>exact OO v n n
theorem Nt (i j:Nat):Builtin.Slice.slicePlaces (i:Int) (j:Int) 1=j - i:=by
 unfold Builtin.Slice.slicePlaces;have h1:(1:Int) > 0:=by lia
 simp only [h1,if_true,et];split <;> lia
theorem ID {v:Value} {o:Option Int} {Q:Option Int->Shared->Prop} (p:IsPart v o) (h:Q o s):wpAny (model prog w) A (Builtin.Slice.slicePartIndex v) Q E s:=by
 cases p with
 | none=>exact slicePart_none h
 | int i t=>exact slicePart_int h
theorem Gz {sl:Addr} {vl vu:Value} {lo hi:Option Int} {n:Nat} {Q:Int × Int × Nat->Shared->Prop} (hs:s.heap.IsSliceOf sl vl vu .none) (pl:IsPart vl lo) (pu:IsPart vu hi)
  (h:Q (((sIx n 0 lo:Nat):Int),1,sIx n n hi - sIx n 0 lo) s):wpAny (model prog w) A (Builtin.Slice.sliceApplied (.ref sl) (pure (n:Int))) Q E s:=by
 obtain ⟨os,hos,hcs,hds⟩:=id hs;unfold Builtin.Slice.sliceApplied Builtin.Slice.sliceFields;refine wpAny_bind (wpAny_bind (wpAny_field hos hds (x:=vl) rfl (wpAny_bind (wpAny_field hos hds (x:=vu) rfl (wpAny_bind (wpAny_field hos hds (x:=.none) rfl (wpAny_pure ?_)))))));refine wpAny_bind (slicePart_none ?_);show wpAny _ _ (if ((1:Int) == 0)=true then _ else _) _ _ s
 rw [if_neg (by decide)];refine wpAny_bind (ID pl (wpAny_bind (ID pu (wpAny_bind (wpAny_pure ?_)))));show wpAny _ _ (match Builtin.Slice.sliceAdjust lo hi 1 (n:Int) with | (lo,hi)=>pure (lo,(1:Int),Builtin.Slice.slicePlaces lo hi 1)) _ _ s
 rw [NU lo hi n];show wpAny _ _ (pure (((sIx n 0 lo:Nat):Int),(1:Int),Builtin.Slice.slicePlaces ((sIx n 0 lo:Nat):Int) ((sIx n n hi:Nat):Int) 1)) _ _ s
 rw [Nt];exact wpAny_pure h
theorem Ry (xs:Array Value) (i k:Nat):((aP k).filterMap fun (m:Nat)=>xs[((i:Int) + (m:Int) * 1).toNat]?).toArray=((xs.toList.drop i).take k).toArray:=by
 have e:(fun (m:Nat)=>xs[((i:Int) + (m:Int) * 1).toNat]?)=fun m=>xs[i + m]?:=by
  funext m;have:((i:Int) + (m:Int) * 1).toNat=i + m:=by lia
  rw [this]
 rw [e];have:=pick_run xs i k;rw [List.filterMap_map] at this;have e2:((fun x=>xs[x]?) ∘ fun x=>i + x)=fun m=>xs[i + m]?:=rfl
 rw [e2] at this;rw [this]
theorem getItem_tuple_cut {t sl:Addr} {items:Array Value} {vl vu:Value} {lo hi:Option Int} {Q:Value->Shared->Prop} (ht:IsTup s.heap t items) (hs:s.heap.IsSliceOf sl vl vu .none) (pl:IsPart vl lo) (pu:IsPart vu hi)
  (hw:¬ (sIx items.size 0 lo=0/\sIx items.size items.size hi=items.size))
  (h:Q (.ref s.heap.objs.size) { s with heap:=s.heap.push { cls:=.type "tuple",data:=.seq ((items.toList.drop (sIx items.size 0 lo)).take (sIx items.size items.size hi - sIx items.size 0 lo)).toArray } })
  (hsz:items.size<=sizeLine):wpAny (model prog w) A (getItem (.ref t) (.ref sl)) Q E s:=by
 have htake:sizeOk (.seq ((items.toList.drop (sIx items.size 0 lo)).take (sIx items.size items.size hi - sIx items.size 0 lo)).toArray):=by
  show ((items.toList.drop (sIx items.size 0 lo)).take (sIx items.size items.size hi - sIx items.size 0 lo)).toArray.size<=sizeLine
  rw [ZU,ah,bA,ag];lia
 have hj:sIx items.size items.size hi<=items.size:=US _ _ (ZJ _) hi;obtain ⟨os,hos,hcs,hds⟩:=id hs;have hTs:s.TypeIs (.ref sl) "slice":=⟨os,hos,hcs⟩
 unfold getItem;try with_reducible refine wpAny_holding ?_
 first | refine wpAny_bind (wpAny_pure ?_) | skip
 refine wpAny_bind (wpAny_sequenceKey ht.typeIs (by decide) ?_);refine wpAny_bind (wpAny_callSpecial?_slot (name:=Str.ofString "__getitem__") ht.typeIs PyProof.Rows.slot_tuple_getitem
  (wpAny_call_entry PyProof.Rows.slot_tuple_getitem ht.typeIs entry_tuple_getitem ?_ (args_tuple_getitem _ _)))
 show wpAny _ _ (Builtin.Tuple.tupleItemsOf (.ref t) >>= _) _ _ s
 refine wpAny_bind (tupleItemsOf_ ht ?_);refine wpAny_bind (wpAny_typeOf hTs ?_);rw [if_pos (by decide)];refine wpAny_bind (Gz hs pl pu ?_);have hno:¬ ((((sIx items.size 0 lo:Nat):Int) == 0 && (1:Int) == 1 && (sIx items.size items.size hi - sIx items.size 0 lo) == items.size)=true):=by
  intro q;rw [aB,aB] at q;have q1:((sIx items.size 0 lo:Nat):Int)=0:=eq_of_beq q.1.1;have q2:sIx items.size items.size hi - sIx items.size 0 lo=items.size:=eq_of_beq q.2;exact hw ⟨by lia,by lia⟩
 show wpAny _ _ (if (((sIx items.size 0 lo:Nat):Int) == 0 && (1:Int) == 1 && (sIx items.size items.size hi - sIx items.size 0 lo) == items.size)=true then _ else _) _ _ s
 rw [if_neg hno,Ry];first
  | exact wpAny_bind (m:=Builtin.Tuple.tupleExact _) (wpAny_newObj_type (wpAny_pure ⟨_,rfl,wpAny_pure h⟩) htake)
  | exact wpAny_bind (m:=Builtin.Tuple.tupleExact _) (wpAny_newObj_type (wpAny_bind (wpAny_pure (wpAny_pure ⟨_,rfl,wpAny_pure h⟩))) htake)
  | exact wpAny_bind (wpAny_bind (m:=Builtin.Tuple.tupleExact _) (wpAny_newObj_type (wpAny_pure (wpAny_pure ⟨_,rfl,wpAny_pure h⟩)) htake))
  | exact wpAny_bind (wpAny_bind (m:=Builtin.Tuple.tupleExact _) (wpAny_newObj_type (wpAny_pure ⟨_,rfl,wpAny_pure h⟩) htake))
end
end HT
namespace L2
open PySem PySem.Spec PyProof.Rows
abbrev TO:=St->Hp->(Option Int->Hp->Prop)->Prop
def PO (X:Cx) (e:Option Expr) (t:TO):Prop:=
 ∀ (pins:List (Addr × Obj)) (s:Shared) (σ:St) (H:Hp) (Q:Option Int->Hp->Prop),Au X pins σ H s->t σ H Q ->
  wpAny (model X.prog X.w) X.A (evalPart e X.env) (fun u s'=>∃ o H',Au X pins σ H' s'/\IsPart u o/\Q o H') X.xe s
def Ia:TO:=fun _ H Q=>Q none H
def tPart (t:TE):TO:=fun σ H Q=>t σ H fun x H1=>∃ i,x=.int i/\Q (some i) H1
section
variable {X:Cx} {e:Expr} {te:TE} {lo hi:Option Expr} {tl th:TO} {pos p2:Pos}
theorem Dc:PO X none Ia:=by
 intro pins s σ H Q I h;rw [evalPart_none];exact wpAny_pure ⟨none,H,I,.none,h⟩
theorem CZ (h:PE X e te):PO X (some e) (tPart te):=by
 intro pins s σ H Q I hw;rw [evalPart_some];refine B0 (h pins s σ H _ I hw) fun u s1 ⟨x,H1,I1,r1,q1⟩=>?_
 obtain ⟨i,rfl,q⟩:=q1;obtain ⟨t,rfl⟩:=r1;exact ⟨some i,H1,I1,.int i t,q⟩
def SlR (X:Cx) (r:V->Option Int->Option Int->Hp->VK->Prop):Prop:=
 ∀ (pins:List (Addr × Obj)) (s:Shared) (σ:St) (H:Hp) (x:V) (v vl vu:Value) (lo hi:Option Int) (sl:Addr) (Q:VK),Au X pins σ H s->AM x v->s.heap.IsSliceOf sl vl vu .none->IsPart vl lo->IsPart vu hi->r x lo hi H Q ->
  ∃ T id,typeLookup (.type T) "__getitem__"=pure (some (.builtin id))/\s.TypeIs v T/\wpAny (model X.prog X.w) X.A (getItem v (.ref sl)) (EP X pins σ Q) X.xe s
def tSl (r:V->Option Int->Option Int->Hp->VK->Prop) (te:TE) (tl th:TO):TE:=fun σ H Q=>te σ H fun x H1=>tl σ H1 fun l H2=>th σ H2 fun u H3=>r x l u H3 Q
theorem Ds {r:V->Option Int->Option Int->Hp->VK->Prop} (hr:SlR X r) (he:PE X e te) (hl:PO X lo tl) (hu:PO X hi th):PE X (.Subscript e (.Slice lo hi none p2) pos) (tSl r te tl th):=by
 intro pins s σ H Q I h;refine Subscript_ (B0 (he pins s σ H _ I h) fun v s1 ⟨x,H1,I1,r1,q1⟩=>?_);refine wpAny_Slice (B0 (hl pins s1 σ H1 _ I1 q1) fun vl s2 ⟨l,H2,I2,pl,q2⟩=>B0 (hu pins s2 σ H2 _ I2 q2) fun vu s3 ⟨u,H3,I3,pu,q3⟩=>?_);rw [evalPart_none];refine wpAny_pure ?_;have I4:Au X pins σ H3 { s3 with heap:=s3.heap.push { cls:=.type "slice",data:=.fields #[vl,vu,.none] } }:=I3.kept (t':=s3.toks) fun b ob q=>ZC _ q
 obtain ⟨T,id,hT,ht,hg⟩:=hr pins { s3 with heap:=s3.heap.push { cls:=.type "slice",data:=.fields #[vl,vu,.none] } } σ H3 x v vl vu l u s3.heap.objs.size Q I4 r1 (Heap.IsSliceOf.new ..) pl pu q3;show wpAny (model X.prog X.w) X.A (subscriptTail e (.Slice lo hi none p2) v (.ref s3.heap.objs.size)) (EP X pins σ Q) X.xe { s3 with heap:=s3.heap.push { cls:=.type "slice",data:=.fields #[vl,vu,.none] } }
 exact tail_any (ops:=[.ref s3.heap.objs.size,v]) ht hT hg (by with_unfolding_all rfl)
def J1 (xs:List V) (lo hi:Option Int):List V:=(xs.drop (HT.sIx xs.length 0 lo)).take (HT.sIx xs.length xs.length hi - HT.sIx xs.length 0 lo)
theorem MJ (xs:List V) (lo hi:Option Int):(J1 xs lo hi).length<=xs.length:=by
 unfold J1;rw [ah,bA];lia
def SI (K:ZD):V->Option Int->Option Int->Hp->VK->Prop:=fun x lo hi H Q=>∃ a xs,x=.ref a/\Ay K H a xs /\
 ¬ (HT.sIx xs.length 0 lo=0/\HT.sIx xs.length xs.length hi=xs.length)/\∀ p,H p=none->Q (.ref p) (upd H p (.tup (J1 xs lo hi)))
theorem UN:SlR X (SI X.K):=by
 intro pins s σ H x v vl vu lo hi sl Q I rx hs pl pu h;obtain ⟨a,xs,rfl,hx,hw,q⟩:=h;cases rx
 obtain ⟨Av,r,ht,hz⟩:=I.tuple hx;have hlen:Av.toArray.size=xs.length:=by rw [ZU]; exact r.length.symm
 exists "tuple",_,PyProof.Rows.slot_tuple_getitem.lookup,ht.typeIs;refine HT.getItem_tuple_cut ht hs pl pu (by rw [hlen]; exact hw) ?_ (by rw [hlen]; exact hz);rw [hlen];refine ⟨.ref s.heap.objs.size,_,I.laid (t':=s.toks) (o:=.tup (J1 xs lo hi)) (fun b ob q=>ZC _ q) (ZJ _) ?_,rfl,q _ (I.hok.fresh (ZJ _))⟩;exact ⟨aj (MJ xs lo hi) hz,_,(r.drop (HT.sIx xs.length 0 lo)).take (HT.sIx xs.length xs.length hi - HT.sIx xs.length 0 lo),IsTup.new _ _,MP.new rfl rfl⟩
def Ud (K:ZD):R2:=fun x y H Q=>∃ a b xs ys,x=.ref a/\y=.ref b/\Ay K H a xs/\Ay K H b ys/\xs ≠ []/\xs.length + ys.length<=sizeLine /\
 (ys=[]->Q (.ref a) H)/\(ys ≠ []->∀ p,H p=none->Q (.ref p) (upd H p (.tup (xs ++ ys))))
theorem AF.nil_iff {xs:List V} {us:List Value} (r:AF xs us):us=[] ↔ xs=[]:=by
 cases r with
 | nil=>simp
 | cons _ _=>simp
theorem SR:EA X (binaryOp .Add) (Ud X.K):=by
 intro pins s σ H x y v u Q I rx ry h;obtain ⟨a,b,xs,ys,rfl,rfl,ha,hb,hx,hz,q1,q2⟩:=h;cases rx
 cases ry
 obtain ⟨Av,r1,p1,_⟩:=I.tuple ha;obtain ⟨JR,r2,p2,_⟩:=I.tuple hb;refine HT.cat_tup p1 p2 (fun z=>hx (r1.nil_iff.mp z)) (fun z=>⟨.ref a,H,I,rfl,q1 (r2.nil_iff.mp z)⟩) (fun z=>?_) (by rw [<-r1.length,<-r2.length]; exact hz);refine ⟨.ref s.heap.objs.size,_,I.laid (t':=s.toks) (o:=.tup (xs ++ ys)) (fun b ob q=>ZC _ q) (ZJ _) ?_,rfl,q2 (fun w=>z (r2.nil_iff.mpr w)) _ (I.hok.fresh (ZJ _))⟩;exact ⟨by rw [ZH]; exact hz,_,r1.append r2,IsTup.new _ _,MP.new rfl rfl⟩
end
def RL (n:Nat) (i:Int):Option Nat:=if 0<=i then (if i < n then some i.toNat else none) else if -(n:Int)<=i then some (i + n).toNat else none
def Gv {α:Type} (xs:List α) (i:Int):Option α:=(RL xs.length i).bind fun j=>xs[j]?
theorem Ik {n:Nat} {i:Int} {j:Nat} (h:RL n i=some j):seqIndex? i n=some j/\j < n/\-(n:Int)<=i/\i < n:=by
 unfold RL at h;by_cases h0:0<=i
 ·rw [if_pos h0] at h;by_cases h1:i < n
  ·rw [if_pos h1] at h;have e:i.toNat=j:=ZZ.inj h;exact ⟨by rw [seqIndex_of h0 h1,e],by lia,by lia,h1⟩
  ·rw [if_neg h1] at h; cases h
 ·rw [if_neg h0] at h;by_cases h1:-(n:Int)<=i
  ·rw [if_pos h1] at h;have e:(i + n).toNat=j:=ZZ.inj h;exact ⟨by rw [seqIndex_neg (by lia) h1,e],by lia,h1,by lia⟩
  ·rw [if_neg h1] at h; cases h
theorem Iu {α:Type} {xs:List α} {i:Int} {v:α} (h:Gv xs i=some v):∃ j,seqIndex? i xs.length=some j/\xs[j]? = some v/\j < xs.length/\-(xs.length:Int)<=i/\i < xs.length:=by
 unfold Gv at h;cases e:RL xs.length i with
 | none=>rw [e] at h; cases h
 | some j=>
  rw [e] at h;obtain ⟨h1,h2,h3,h4⟩:=Ik e;exact ⟨j,h1,h,h2,h3,h4⟩
theorem CA {α:Type} {xs:List α} {j:Nat} {v:α} (h:xs[j]? = some v):Gv xs (j:Int)=some v:=by
 have hj:j < xs.length:=(ZN.mp h).1;have e:RL xs.length (j:Int)=some j:=by
  unfold RL;rw [if_pos (by lia),if_pos (by lia)]; simp
 unfold Gv; rw [e]; exact h
def TJ (b:Expr):Prop:=∀ o i,subscripted b false o i=operate [o,i] (getItem o i)
def Wi (X:Cx) (r:R2):Prop:=
 ∀ (value slice:Expr) (pins:List (Addr × Obj)) (s:Shared) (σ:St) (H:Hp) (x y:V) (v u:Value) (Q:VK),Au X pins σ H s->AM x v->AM y u->r x y H Q ->
  subscripted slice false v u=operate [v,u] (getItem v u)->wpAny (model X.prog X.w) X.A (subscriptTail value slice v u) (EP X pins σ Q) X.xe s
def MtR (X:Cx) (id:String) (r:V->List V->Hp->VK->Prop):Prop:=
 ∀ (pins:List (Addr × Obj)) (s:Shared) (σ:St) (H:Hp) (x:V) (xs:List V) (v:Value) (us:List Value) (Q:VK),Au X pins σ H s->AM x v->AF xs us->r x xs H Q ->
  wpAny (model X.prog X.w) X.A (call (.builtin id) (v :: us)) (EP X pins σ Q) X.xe s
section
variable {X:Cx} {a b:Expr} {ta tb:TE} {pos:Pos}
theorem Az {r:R2} (hr:Wi X r) (ha:PE X a ta) (hb:PE X b tb) (hs:TJ b):PE X (.Subscript a b pos) (tOp r ta tb):=by
 intro pins s σ H Q I h;exact Subscript_ (VE ha hb I h fun v u s2 x y H2 I2 rx ry q=>hr a b pins s2 σ H2 x y v u Q I2 rx ry q (hs _ _))
def rIxL (K:ZD):R2:=fun x y H Q=>∃ p xs i v,x=.ref p/\y=.int i/\AZ K H p xs/\Gv xs i=some v/\Q v H
def rIxT (K:ZD):R2:=fun x y H Q=>∃ p xs i v,x=.ref p/\y=.int i/\Ay K H p xs/\Gv xs i=some v/\Q v H
def rIxS:R2:=fun x y H Q=>∃ z i c,x=.str z/\y=.int i/\z.length<=sizeLine/\Gv z.cps.toList i=some c/\Q (.str ⟨#[c]⟩) H
theorem Bf:Wi X (rIxL X.K):=by
 intro value slice pins s σ H x y v u Q I rx ry h hs;obtain ⟨p,xs,i,z,rfl,rfl,hq,he,q⟩:=h;cases rx
 obtain ⟨t,rfl⟩:=ry;obtain ⟨Av,r,pl,hz⟩:=I.list hq;obtain ⟨j,h1,h2,h3,h4,h5⟩:=Iu he;obtain ⟨w,ew,Pr⟩:=r.get h2;have hl:=r.length;have hn:=F5;have fin:EP X pins σ Q w s:=⟨z,H,I,Pr,q⟩
 by_cases h0:0<=i
 ·have hj:i.toNat=j:=by
   rw [seqIndex_of h0 h5] at h1;exact ZZ.inj h1
  exact item_listR pl.isList h0 (by lia) (by rw [hj]; simpa using ew) fin hs
 ·have hj:(i + (Av.toArray.size:Int)).toNat=j:=by
   rw [seqIndex_neg (by lia) h4] at h1;rw [ZU,<-hl];exact ZZ.inj h1
  exact subscriptTail_builtinR (x:=w) pl.isList.typeIs slot_list_getitem.lookup
   (wpAny_getItem_list_neg (Q:=fun r s'=>r=w/\EP X pins σ Q r s') pl.isList (by lia) (by rw [ZU] <;> lia) (by lia) (by rw [hj]; simpa using ew) ⟨rfl,fin⟩) hs
theorem F6:Wi X (rIxT X.K):=by
 intro value slice pins s σ H x y v u Q I rx ry h hs;obtain ⟨p,xs,i,z,rfl,rfl,hq,he,q⟩:=h;cases rx
 obtain ⟨t,rfl⟩:=ry;obtain ⟨Av,r,pl,hz⟩:=I.tuple hq;obtain ⟨j,h1,h2,h3,h4,h5⟩:=Iu he;obtain ⟨w,ew,Pr⟩:=r.get h2;have hl:=r.length;have hn:=F5;have fin:EP X pins σ Q w s:=⟨z,H,I,Pr,q⟩
 exact subscriptTail_builtinR (x:=w) pl.typeIs slot_tuple_getitem.lookup
  (getItem_tuple (j:=j) (Q:=fun r s'=>r=w/\EP X pins σ Q r s') pl (by lia) (by lia) (by rw [ZU,<-hl]; exact h1) (by simpa using ew) ⟨rfl,fin⟩) hs
theorem RK:Wi X rIxS:=by
 intro value slice pins s σ H x y v u Q I rx ry h hs;obtain ⟨z,i,c,rfl,rfl,hz,he,q⟩:=h;obtain ⟨t,rfl⟩:=rx;obtain ⟨t',rfl⟩:=ry;obtain ⟨j,h1,h2,h3,h4,h5⟩:=Iu he;have hl:z.cps.toList.length=z.length:=by simp [Str.length]
 rw [hl] at h1 h4 h5;have hn:=F5;exact tail_any (typeIs_str s z t) slot_str_getitem.lookup (getItem_str (c:=c) (by
  have e1:decide (i < -(2 ^ 63:Int))=false:=decide_eq_false (by lia);have e2:decide (i >= 2 ^ 63)=false:=decide_eq_false (by lia);rw [e1,e2,fY]) (by rw [h1]; simpa using h2) ⟨.str ⟨#[c]⟩,H,I.tok _,⟨_,rfl⟩,q⟩) hs
theorem NA (Av:List Value) (n j:Nat) (u:Value):Obj.mapSeq (·.setIfInBounds j u) { cls:=.type "list",data:=.seq Av.toArray n } = { cls:=.type "list",data:=.seq (Av.set j u).toArray n }:=by
 simp [Obj.mapSeq]
theorem Au.lst {pins:List (Addr × Obj)} {σ:St} {H:Hp} {s:Shared} {p:Addr} {xs:List V} (I:Au X pins σ H s) (h:H p=some (.lst xs)) :
  ∃ (Av:List Value) (n:Nat),AF xs Av/\s.heap.get? p=some { cls:=.type "list",data:=.seq Av.toArray n }/\xs.length<=sizeLine:=by
 obtain ⟨z,Av,n,r,e⟩:=I.hok p _ h;exact ⟨Av,n,r,e,z⟩
theorem Au.lstUpd {pins:List (Addr × Obj)} {σ:St} {H:Hp} {s:Shared} {p:Addr} {xs ys:List V} {Av its':List Value} {n n':Nat} {f:Obj->Obj} (I:Au X pins σ H s) (h:H p=some (.lst xs))
  (ho:s.heap.get? p=some { cls:=.type "list",data:=.seq Av.toArray n }) (hf:f { cls:=.type "list",data:=.seq Av.toArray n } = { cls:=.type "list",data:=.seq its'.toArray n' }) (r:AF ys its') (hz:ys.length<=sizeLine) (t:Nat) :
  Au X pins σ (upd H p (.lst ys)) { s with heap:=s.heap.update p f,toks:=t }:=by
 have e:(s.heap.update p f).get? p=some { cls:=.type "list",data:=.seq its'.toArray n' }:=by
  rw [aE f ho (by rw [hf] <;> rfl),hf]
 refine I.write (x:=p) (e:=p) (by rw [h]; trivial) (.inl rfl) (fun b u hb q=>(ax _ _ (Ne.symm hb)).trans q) ⟨_,e⟩ ?_;exact ⟨hz,its',n',r,e⟩
def rSetL:V->V->V->Hp->(Hp->Prop)->Prop:=fun o i v H Q=>∃ p xs k j,o=.ref p/\i=.int k/\H p=some (.lst xs)/\RL xs.length k=some j/\Q (upd H p (.lst (xs.set j v)))
theorem IE:PSet X rSetL:=by
 intro pins s σ H o i v ov iv u Q I ro ri rv h;obtain ⟨p,xs,k,j,rfl,rfl,hp,hj,q⟩:=h;cases ro
 obtain ⟨t,rfl⟩:=ri;obtain ⟨Av,n,r,ho,hz⟩:=I.lst hp;obtain ⟨h1,h2,h3,h4⟩:=Ik hj;have hl:=r.length;have hn:=F5;have I':Au X pins σ (upd H p (.lst (xs.set j v))) { s with heap:=s.heap.update p (Obj.mapSeq (·.setIfInBounds j u)) }:=
  I.lstUpd hp ho (NA Av n j u) (r.set rv j) (by rw [List.length_set]; exact hz) s.toks
 by_cases h0:0<=k
 ·have hk:k.toNat=j:=by
   rw [seqIndex_of h0 h4] at h1;exact ZZ.inj h1
  exact PySem.W.ki_setAt ho h0 (by lia) (by rw [ZU,<-hl]; exact h4) (by rw [hk]; exact ⟨_,I',q⟩)
 ·have hk:(k + (Av.toArray.size:Int)).toNat=j:=by
   rw [seqIndex_neg (by lia) h3] at h1;rw [ZU,<-hl];exact ZZ.inj h1
  exact PySem.W.ki_setBack ho (by lia) (by rw [ZU,<-hl]; exact h3) (by lia) (by rw [hk]; exact ⟨_,I',q⟩)
def Gg:V->Bool
 | .non=>true
 | .bl _=>true
 | .int _=>true
 | .str _=>true
 | _=>false
def Tw:V->V->Bool
 | .non,.non=>true
 | .bl a,.bl b=>a == b
 | .bl a,.int b=>(if a then 1 else 0) == b
 | .int a,.bl b=>a == (if b then 1 else 0)
 | .int a,.int b=>a == b
 | .str a,.str b=>a == b
 | _,_=>false
theorem VA {A:Around} {s:Shared} {y x:V} {u v:Value} (ry:AM y u) (rx:AM x v) (fy:Gg y=true) (fx:Gg x=true):SeqAt.EqAt A s u v (Tw y x):=by
 cases y with
 | non=>
  cases ry
  cases x with
  | non=>cases rx; exact SeqAt.EqAt.same _
  | bl b=>cases rx; exact SeqAt.EqAt.none_bool b
  | int b=>obtain ⟨t,rfl⟩:=rx; exact SeqAt.EqAt.none_int b t
  | str b=>obtain ⟨t,rfl⟩:=rx; exact SeqAt.EqAt.none_str b t
  | _=>exact absurd (show false=true from fx) ZV
 | bl a=>
  cases ry
  cases x with
  | non=>cases rx; exact SeqAt.EqAt.bool_none a
  | bl b=>cases rx; exact SeqAt.EqAt.bool_bool a b
  | int b=>obtain ⟨t,rfl⟩:=rx; exact SeqAt.EqAt.bool_int a b t
  | str b=>obtain ⟨t,rfl⟩:=rx; exact SeqAt.EqAt.bool_str a b t
  | _=>exact absurd (show false=true from fx) ZV
 | int a=>
  obtain ⟨t',rfl⟩:=ry;cases x with
  | non=>cases rx; exact SeqAt.EqAt.int_none a t'
  | bl b=>cases rx; exact SeqAt.EqAt.int_bool a t' b
  | int b=>obtain ⟨t,rfl⟩:=rx; exact SeqAt.EqAt.int_int a t' b t
  | str b=>obtain ⟨t,rfl⟩:=rx; exact SeqAt.EqAt.int_str a t' b t
  | _=>exact absurd (show false=true from fx) ZV
 | str a=>
  obtain ⟨t',rfl⟩:=ry;cases x with
  | non=>cases rx; exact SeqAt.EqAt.str_none a t'
  | bl b=>cases rx; exact SeqAt.EqAt.str_bool a t' b
  | int b=>obtain ⟨t,rfl⟩:=rx; exact SeqAt.EqAt.str_int a t' b t
  | str b=>obtain ⟨t,rfl⟩:=rx; exact SeqAt.EqAt.str_str a t' b t
  | _=>exact absurd (show false=true from fx) ZV
 | _=>exact absurd (show false=true from fy) ZV
def Tx (x:V) (u:Value):Bool:=match u with
 | .none=>Tw .non x
 | .bool b=>Tw (.bl b) x
 | .int i _=>Tw (.int i) x
 | .str z _=>Tw (.str z) x
 | _=>false
theorem RX {x y:V} {u:Value} (r:AM y u) (f:Gg y=true):Tx x u=Tw y x:=by
 cases y with
 | non=>cases r; rfl
 | bl b=>cases r; rfl
 | int i=>obtain ⟨t,rfl⟩:=r; rfl
 | str z=>obtain ⟨t,rfl⟩:=r; rfl
 | _=>exact absurd (show false=true from f) ZV
theorem L8 {x:V}:∀ {xs:List V} {us:List Value},AF xs us->xs.all Gg=true->us.any (Tx x)=xs.any fun y=>Tw y x
 | _,_,.nil,_=>rfl
 | y :: xs,u :: us,.cons r t,f=>by
  rw [cV,aB] at f;rw [bT,bT,RX r f.1,L8 t f.2]
theorem Jf {A:Around} {s:Shared} {x:V} {v:Value} (rx:AM x v) (fx:Gg x=true):∀ {xs:List V} {us:List Value},AF xs us->xs.all Gg=true->∀ u ∈ us,SeqAt.EqAt A s u v (Tx x u)
 | _,_,.nil,_=>fun u hu=>by cases hu
 | y :: xs,u :: us,.cons r t,f=>fun u' hu=>by
  rw [cV,aB] at f;rcases ZF.mp hu with rfl | hu
  ·rw [RX r f.1]; exact VA r rx f.1 fx
  ·exact Jf rx fx t f.2 u' hu
def inV (x:V) (xs:List V):Bool:=xs.any fun y=>Tw y x
def rIn (K:ZD) (neg:Bool):R2:=fun x y H Q=>∃ p xs,y=.ref p/\(AZ K H p xs\/Ay K H p xs)/\Gg x=true/\xs.all Gg=true/\Q (.bl (if neg then !inV x xs else inV x xs)) H
theorem Kv:EA X (compareOp .In) (rIn X.K false):=by
 intro pins s σ H x y v u Q I rx ry h;obtain ⟨p,xs,rfl,hq,fx,fs,q⟩:=h;cases ry
 rcases hq with hq | hq
 ·obtain ⟨Av,r,pl,hz⟩:=I.list hq;refine SeqAt.in_listAt (Tx x) pl.isList (fun w hw=>Jf rx fx r fs w (by simpa using hw)) ⟨.bl _,H,I,rfl,?_⟩;rw [show Av.toArray.any (Tx x)=Av.any (Tx x) by simp,L8 r fs];exact q
 ·obtain ⟨Av,r,pl,hz⟩:=I.tuple hq;refine SeqAt.in_tupleAt (Tx x) pl (fun w hw=>Jf rx fx r fs w (by simpa using hw)) ⟨.bl _,H,I,rfl,?_⟩;rw [show Av.toArray.any (Tx x)=Av.any (Tx x) by simp,L8 r fs];exact q
theorem AI:Bn X (.builtin "len") (fun xs H Q=>∃ p ys,xs=[.ref p]/\(AZ X.K H p ys\/Ay X.K H p ys)/\Q (.int ys.length) H):=by
 intro pins s σ H xs us Q I r h;obtain ⟨p,ys,rfl,hq,q⟩:=h;obtain ⟨u,rfl,rx⟩:=Cj r;cases rx
 have hn:=F5;rcases hq with hq | hq
 ·obtain ⟨Av,r',pl,hz⟩:=I.list hq;have hlen:=r'.length;exact Calls.call_len_list pl.isList (by simp only [ZU] <;> lia) ⟨.int ys.length,H,I.tok _,⟨s.toks + 1,by rw [ZU,hlen]⟩,q⟩
 ·obtain ⟨Av,r',pl,hz⟩:=I.tuple hq;have hlen:=r'.length;exact len_tuple pl (by simp only [ZU] <;> lia) ⟨.int ys.length,H,I.tok _,⟨s.toks + 1,by rw [ZU,hlen]⟩,q⟩
theorem Gm:Bn X (.builtin "len") (fun xs H Q=>∃ z,xs=[.str z]/\z.length<=sizeLine/\Q (.int z.length) H):=by
 intro pins s σ H xs us Q I r h;obtain ⟨z,rfl,hz,q⟩:=h;obtain ⟨u,rfl,t,rfl⟩:=Cj r;have hn:=F5;exact len_str (by lia) ⟨.int z.length,H,I.tok _,⟨_,rfl⟩,q⟩
theorem Gk:Bn X (.type "list") (fun xs H Q=>∃ p ys,xs=[.ref p]/\(AZ X.K H p ys\/Ay X.K H p ys)/\∀ l,H l=none->Q (.ref l) (upd H l (.lst ys))):=by
 intro pins s σ H xs us Q I r h;obtain ⟨p,ys,rfl,hq,q⟩:=h;obtain ⟨u,rfl,rx⟩:=Cj r;cases rx
 have fin:∀ (Av:List Value),AF ys Av->ys.length<=sizeLine->∀ (h':Heap) (c':Nat),(∀ b o',s.heap.get? b=some o'->h'.get? b=some o') ->
   h'.get? s.heap.objs.size=some { cls:=.type "list",dict:=none,data:=.seq Av.toArray c',slots:=#[] }->EP X pins σ Q (.ref s.heap.objs.size) { s with heap:=h' }:=fun Av r' hz h' c' kp e=>
  ⟨.ref s.heap.objs.size,_,I.laid (t':=s.toks) kp (ZJ _) (show AV X.prog X.w _ h' _ (.lst ys) from ⟨hz,Av,c',r',e⟩),rfl,q _ (I.hok.fresh (ZJ _))⟩
 rcases hq with hq | hq
 ·obtain ⟨Av,r',pl,hz⟩:=I.list hq;have hlen:=r'.length;obtain ⟨o,ho,hc,n,hd⟩:=pl.isList;exact call_list_seq p (.inl rfl) ho hc hd (fun h' c' kp e=>fin Av r' hz h' c' kp e) (by simp only [ZU] <;> lia)
 ·obtain ⟨Av,r',pl,hz⟩:=I.tuple hq;have hlen:=r'.length;obtain ⟨o,ho,hc,n,hd⟩:=pl;exact call_list_seq p (.inr rfl) ho hc hd (fun h' c' kp e=>fin Av r' hz h' c' kp e) (by simp only [ZU] <;> lia)
theorem B5:Bn X (.type "tuple") (fun xs H Q=>∃ p ys,xs=[.ref p]/\((AZ X.K H p ys/\∀ l,H l=none->Q (.ref l) (upd H l (.tup ys)))\/(Ay X.K H p ys/\Q (.ref p) H))):=by
 intro pins s σ H xs us Q I r h;obtain ⟨p,ys,rfl,h⟩:=h;obtain ⟨u,rfl,rx⟩:=Cj r;cases rx
 rcases h with ⟨hq,q⟩ | ⟨hq,q⟩
 ·obtain ⟨Av,r',pl,hz⟩:=I.list hq;have hlen:=r'.length;refine call_tuple_list pl.isList (fun h' kp=>?_) (by simp only [ZU] <;> lia);have I1:Au X pins σ H { s with heap:=h' }:=I.kept (t':=s.toks) kp;have I2:Au X pins σ (upd H h'.objs.size (.tup ys)) { s with heap:=h'.push { cls:=.type "tuple",data:=.seq Av.toArray } }:=
   I1.laid (t':=s.toks) (fun b o e=>ZC _ e) (ZJ _) (show AV X.prog X.w _ _ _ (.tup ys) from ⟨hz,Av,r',IsTup.new _ _,MP.new rfl rfl⟩)
  exact ⟨.ref h'.objs.size,_,I2,rfl,q _ (I1.hok.fresh (ZJ _))⟩
 ·obtain ⟨Av,r',pl,hz⟩:=I.tuple hq;exact call_tuple_same pl ⟨.ref p,H,I,rfl,q⟩
def tyV (K:ZD) (T:String) (x:V) (H:Hp):Prop:=match x with
 | .str _=>T="str"
 | .int _=>T="int"
 | .ref p=>(T="list"/\∃ xs,AZ K H p xs)\/(T="tuple"/\∃ o,K.lookup p=some o/\o.cls=.type "tuple"/\o.dict=none) \/
   (T="dict"/\((∃ kvs,H p=some (.dK kvs))\/∃ kvs,H p=some (.dT kvs)))\/(T="set"/\∃ S n,H p=some (.set S n))
 | _=>False
theorem UC {pins:List (Addr × Obj)} {σ:St} {H:Hp} {s:Shared} {T:String} {x:V} {v:Value} (I:Au X pins σ H s) (r:AM x v) (ty:tyV X.K T x H) :
  s.TypeIs v T/\∀ a,v=.ref a->∃ ob,s.heap.get? a=some ob/\ob.dict=none:=by
 cases x with
 | str z=>
  obtain ⟨t,rfl⟩:=r;cases (show T="str" from ty)
  exact ⟨typeIs_str s z t,fun _ e=>nomatch e⟩
 | int i=>
  obtain ⟨t,rfl⟩:=r;cases (show T="int" from ty)
  exact ⟨typeIs_int s i t,fun _ e=>nomatch e⟩
 | ref p=>
  cases r
  rcases ty with ⟨rfl,xs,hq⟩ | ⟨rfl,o,hk,hc,hd⟩ | ⟨rfl,hk⟩ | ⟨rfl,S,n,hk⟩
  ·obtain ⟨Av,_,pl,_⟩:=I.list hq;refine ⟨pl.isList.typeIs,fun a e=>?_⟩;cases e
   obtain ⟨o,n,e,c,hd,_⟩:=pl;exact ⟨o,e,hd⟩
  ·refine ⟨⟨o,I.kIn p o hk,hc⟩,fun a e=>?_⟩;cases e
   exact ⟨o,I.kIn _ o hk,hd⟩
  ·have z:∃ o,s.heap.get? p=some o/\o.ExactDict:=by
    rcases hk with ⟨kvs,hk⟩ | ⟨kvs,hk⟩
    ·obtain ⟨_,_,_,_,o,_,_,e,ex,_⟩:=I.hok p _ hk;exact ⟨o,e,ex⟩
    ·obtain ⟨_,_,_,_,o,_,_,e,ex,_⟩:=I.hok p _ hk;exact ⟨o,e,ex⟩
   obtain ⟨o,e,ex⟩:=z;refine ⟨⟨o,e,ex.1⟩,fun a e2=>?_⟩;cases e2
   exact ⟨o,e,ex.2.1⟩
  ·obtain ⟨o,_,_,_,e,ex,_⟩:=I.hok p _ hk;refine ⟨⟨o,e,ex.1⟩,fun a e2=>?_⟩;cases e2
   exact ⟨o,e,ex.2.1⟩
 | _=>exact False.elim ty
def tBM (K:ZD) (T:String) (r:V->List V->Hp->VK->Prop) (to:TE) (t:TA):TE:=fun σ H Q=>to σ H fun x H1=>tyV K T x H1/\t σ H1 fun xs H2=>r x xs H2 Q
variable {o e:Expr} {es:List Expr} {to:TE} {t:TA} {name:Str} {apos DO:Pos} {T id:String} {r:V->List V->Hp->VK->Prop}
theorem Ht (pa:PlainAttrs T) (slot:Slot T name id) (hty:typeOf (.builtin id)=pure (.type "method_descriptor")) (hm:MtR X id r) (ho:PE X o to) (ha:PA X (e :: es) t)
  (hbase:attributeBase o name X.env (eval o X.env)=eval o X.env:=by rfl)
  (hfew:((backTo DO (starEach (e :: es) X.env)).all (fun x=>!x.1) && (backToKw DO (keywordEach [] X.env)).all (fun x=>x.1.isSome)
   && decide ((e :: es).length + ([]:List Keyword).length + (if ([]:List Keyword).isEmpty then 0 else 1) < 30))=true:=by rfl)
  (hline:(apos.endLine == DO.line)=true:=by rfl) (hs:starEach (e :: es) X.env=(false,eval e X.env) :: starEach es X.env:=by rfl) (hplain:(backTo DO (starEach es X.env)).any (·.1)=false:=by rfl) :
  PE X (.Call (.Attribute o name apos) (e :: es) [] DO) (tBM X.K T r to t):=by
 intro pins s σ H Q I h;refine wpAny_Call_method_late hbase hfew hline rfl (B0 (ho pins s σ H _ I h) fun v s1 ⟨x,H1,I1,r1,ty,q1⟩=>?_);obtain ⟨h1,h2⟩:=UC I1 r1 ty;exists T,id,pa,slot,hty,h1,h2;have hA:=ha DO pins s1 σ H1 _ I1 q1;rw [hs] at hA ⊢;refine Calls.callWith_builtin (by show (false || (backTo DO (starEach es X.env)).any (·.1))=false; rw [hplain] <;> rfl) (Calls.evalArgs_plain ?_);exact B0 hA fun us s2 ⟨vs,H2,I2,r2,q2⟩=>hm pins s2 σ H2 x vs v us Q I2 r1 r2 q2
end
def MtM (X:Cx) (id:String) (r:V->List V->Hp->VK->Prop):Prop:=
 ∀ (pins:List (Addr × Obj)) (s:Shared) (σ:St) (H:Hp) (x:V) (xs:List V) (v:Value) (us:List Value) (Q:VK),Au X pins σ H s->AM x v->AF xs us->r x xs H Q ->
  wpAny (model X.prog X.w) X.A (call (.builtin id) (v :: us)) (EP X pins σ Q) X.xe s
theorem AF.one:∀ {x:V} {us:List Value},AF [x] us->∃ u,us=[u]/\AM x u
 | _,_,.cons r .nil=>⟨_,rfl,r⟩
theorem AF.eraseIdx:∀ {xs:List V} {us:List Value} (i:Nat),AF xs us->AF (xs.eraseIdx i) (us.eraseIdx i)
 | _,_,_,.nil=>.nil
 | _,_,0,.cons _ t=>t
 | _,_,i + 1,.cons r t=>.cons r (AF.eraseIdx i t)
theorem Kx {α:Type}:∀ (l:List α) (i:Nat),(l.eraseIdx i).length<=l.length
 | [],_=>ZJ _
 | _ :: _,0=>ar _
 | _ :: r,i + 1=>Nat.succ_le_succ (Kx r i)
section
variable {X:Cx} {pins:List (Addr × Obj)} {σ:St} {H:Hp} {s:Shared} {l b:Addr} {xs ys zs:List V}
theorem Au.lset {Av its':List Value} {n:Nat} {f:Array Value->Array Value} {t':Nat} (I:Au X pins σ H s) (hH:H l=some (.lst xs))
  (e:s.heap.get? l=some { cls:=.type "list",data:=.seq Av.toArray n }) (hf:f Av.toArray=its'.toArray) (hv:AF ys its') (hz:ys.length<=sizeLine) :
  Au X pins σ (upd H l (.lst ys)) { s with heap:=s.heap.update l (Obj.mapSeq f),toks:=t' }:=by
 have q:=PySem.IsL.update e f;rw [hf] at q;refine I.write (x:=l) (e:=l) (by rw [hH]; exact trivial) (.inl rfl) (fun b' u hb hu=>(ax s.heap (Obj.mapSeq f) (Ne.symm hb)).trans hu) ⟨_,q⟩ ?_;exact ⟨hz,its',_,hv,q⟩
theorem Au.lnew {Av:List Value} {t':Nat} (I:Au X pins σ H s) (hv:AF ys Av) (hz:ys.length<=sizeLine) :
  Au X pins σ (upd H s.heap.objs.size (.lst ys)) { s with heap:=s.heap.push { cls:=.type "list",data:=.seq Av.toArray },toks:=t' }:=
 I.laid (fun _ _ q=>ZC _ q) (ZJ _) ⟨hz,Av,0,hv,ZM _ rfl⟩
theorem Au.fresh (I:Au X pins σ H s):H s.heap.objs.size=none:=I.hok.fresh (ZJ _)
theorem Au.lstM (I:Au X pins σ H s) (hH:H l=some (.lst xs)):xs.length<=sizeLine/\∃ (Av:List Value) (n:Nat),AF xs Av/\xs.length=Av.length/\s.heap.get? l=some { cls:=.type "list",data:=.seq Av.toArray n }:=by
 obtain ⟨z,Av,n,r,e⟩:=I.hok l _ hH;exact ⟨z,Av,n,r,r.length,e⟩
end
section
variable {X:Cx}
def SJ:V->List V->Hp->VK->Prop:=fun x vs H Q=>∃ l xs y,x=.ref l/\vs=[y]/\H l=some (.lst xs)/\xs.length < sizeLine/\Q .non (upd H l (.lst (xs ++ [y])))
theorem C4:MtM X "list.append" SJ:=by
 intro pins s σ H x vs v us Q I rx rv h;obtain ⟨l,xs,y,rfl,rfl,hH,hz,q⟩:=h;cases rx
 obtain ⟨u,rfl,ru⟩:=rv.one;obtain ⟨z,Av,n,r,hl,e⟩:=I.lstM hH;refine call_meets F.slot_list_append ⟨_,e,rfl⟩ F.entry_list_append (F.args_list_append_2 _ _) (PySem.list_append l Av.toArray n u (by rw [ZU]; lia)) ⟨e,?_⟩;refine ⟨.non,_,I.lset (its':=Av ++ [u]) hH e (by simp) (r.append (.cons ru .nil)) ?_,rfl,q⟩;rw [ZH,b8];lia
def UY:V->List V->Hp->VK->Prop:=fun x vs H Q=>∃ l xs i k y,x=.ref l/\vs=[.int i]/\H l=some (.lst xs)/\-(2 ^ 63)<=i/\i < 2 ^ 63/\seqIndex? i xs.length=some k/\xs[k]? = some y/\Q y (upd H l (.lst (xs.eraseIdx k)))
theorem M4:MtM X "list.pop" UY:=by
 intro pins s σ H x vs v us Q I rx rv h;obtain ⟨l,xs,i,k,y,rfl,rfl,hH,h1,h2,hk,hy,q⟩:=h;cases rx
 obtain ⟨u,rfl,ru⟩:=rv.one;obtain ⟨t,rfl⟩:=ru;obtain ⟨z,Av,n,r,hl,e⟩:=I.lstM hH;obtain ⟨w,hw,Pr⟩:=r.get hy;refine call_meets F.slot_list_pop ⟨_,e,rfl⟩ F.entry_list_pop (F.args_list_pop_2 _ _)
  (MeetsSeq.list_pop_at l Av.toArray n i t k w (fitsIndex_both h1 h2) (by rw [ZU,<-hl]; exact hk) (by rw [<-aX]; exact hw) (by rw [ZU]; lia)) ⟨e,?_⟩
 refine ⟨y,_,I.lset (its':=Av.eraseIdx k) hH e ?_ (r.eraseIdx k) ?_,Pr,q⟩
 ·show Av.toArray.eraseIdxIfInBounds k=(Av.eraseIdx k).toArray
  rw [List.eraseIdxIfInBounds_toArray]
 ·have:=Kx xs k;lia
def rCat:R2:=fun x y H Q=>∃ l b xs zs,x=.ref l/\y=.ref b/\H l=some (.lst xs)/\H b=some (.lst zs)/\xs.length + zs.length<=sizeLine/\∀ p,H p=none->Q (.ref p) (upd H p (.lst (xs ++ zs)))
theorem Vk:EA X (binaryOp .Add) rCat:=by
 intro pins s σ H x y v u Q I rx ry h;obtain ⟨l,b,xs,zs,rfl,rfl,hH,hB,hz,q⟩:=h;cases rx
 cases ry
 obtain ⟨z,Av,n,r,hl,e⟩:=I.lstM hH;obtain ⟨z2,JR,n2,r2,Io,e2⟩:=I.lstM hB;refine PySem.P.add_list e e2 ?_ (by rw [ZU,ZU]; lia);have ea:Av.toArray ++ JR.toArray=(Av ++ JR).toArray:=by simp
 rw [ea];exact ⟨.ref _,_,I.lnew (t':=s.toks) (r.append r2) (by rw [ZH]; lia),rfl,q _ I.fresh⟩
end
section
variable {prog:Program} {w:World} {A:Around} {E:Value->Shared->Prop} {s:Shared}
set_option maxRecDepth 100000 in
end
section
variable {X:Cx}
end
section
variable {κ:Type} [DecidableEq κ]
def B9 (kvs:List (κ × V)) (k:κ):Option V:=(kvs.find? fun kv=>decide (kv.1=k)).map (·.2)
def BM (kvs:List (κ × V)) (k:κ) (v:V):List (κ × V):=
 if (kvs.any fun kv=>decide (kv.1=k))=true then kvs.map (fun kv=>if kv.1=k then (kv.1,v) else kv) else kvs ++ [(k,v)]
def Jv (kvs:List (κ × V)) (k:κ):List (κ × V):=kvs.filter fun kv=>decide (kv.1 ≠ k)
theorem BJ {p:κ × V} {r:List (κ × V)} {k:κ} (e:p.1=k):B9 (p :: r) k=some p.2:=by simp [B9,bz,e]
theorem BB {p:κ × V} {r:List (κ × V)} {k:κ} (e:¬ p.1=k):B9 (p :: r) k=B9 r k:=by simp [B9,bz,e]
theorem Co (k:κ):∀ kvs:List (κ × V),(kvs.any fun kv=>decide (kv.1=k))=(B9 kvs k).isSome
 | []=>rfl
 | p :: r=>by
  rw [bT];by_cases e:p.1=k
  ·simp only [BJ e,decide_eq_true e,Bool.true_or,Option.isSome_some]
  ·rw [BB e,decide_eq_false e,Bool.false_or]; exact Co k r
theorem LJ (k j:κ) (y:V):∀ kvs:List (κ × V),B9 (kvs.map fun kv=>if kv.1=k then (kv.1,y) else kv) j=(B9 kvs j).map fun x=>if j=k then y else x
 | []=>rfl
 | p :: r=>by
  have ih:=LJ k j y r;rw [ZS];by_cases h:p.1=k
  ·rw [if_pos h];by_cases e:p.1=j
   ·rw [BJ (p:=(p.1,y)) e,BJ e,bG,if_pos (e.symm.trans h)]
   ·rw [BB (p:=(p.1,y)) e,BB e,ih]
  ·rw [if_neg h];by_cases e:p.1=j
   ·rw [BJ (p:=p) e,BJ e,bG,if_neg (fun z=>h (e.trans z))]
   ·rw [BB (p:=p) e,BB e,ih]
theorem Kb (k j:κ) (y:V):∀ kvs:List (κ × V),B9 kvs k=none->B9 (kvs ++ [(k,y)]) j=if j=k then some y else B9 kvs j
 | [],_=>by
  by_cases e:k=j
  ·rw [if_pos e.symm]; exact BJ (p:=(k,y)) e
  ·rw [if_neg (fun z=>e z.symm)]; exact BB (p:=(k,y)) e
 | p :: r,hn=>by
  rw [dk];have hk:¬ p.1=k:=fun z=>by rw [BJ z] at hn; cases hn
  rw [BB hk] at hn;have ih:=Kb k j y r hn;by_cases e:p.1=j
  ·rw [BJ e,BJ e,if_neg (fun z=>hk (e.trans z))]
  ·rw [BB e,BB e,ih]
theorem QN (kvs:List (κ × V)) (k j:κ) (y:V):B9 (BM kvs k y) j=if j=k then some y else B9 kvs j:=by
 unfold BM;by_cases a:(kvs.any fun kv=>decide (kv.1=k))=true
 ·rw [if_pos a,LJ];rw [Co] at a;by_cases e:j=k
  ·obtain ⟨x,hx⟩:=cj.mp a;rw [if_pos e,e,hx,bG,if_pos rfl]
  ·rw [if_neg e];cases B9 kvs j with
   | none=>rfl
   | some x=>rw [bG,if_neg e]
 ·rw [if_neg a];refine Kb k j y kvs ?_;rw [Co] at a;cases q:B9 kvs k with
  | none=>rfl
  | some x=>rw [q] at a; exact (a rfl).elim
theorem CD (kvs:List (κ × V)) (k:κ) (v:V):(BM kvs k v).length<=kvs.length + 1:=by
 unfold BM;split
 ·rw [ZA]; lia
 ·rw [ZH,az,fk]; lia
theorem Ru {kvs:List (κ × V)} {k:κ} (v:V) (h:B9 kvs k=none):BM kvs k v=kvs ++ [(k,v)]:=by
 unfold BM;rw [Co,h];exact if_neg (by decide)
theorem Hd.isSome_eq {o:Option V} {u:Option Value} (r:Hd o u):o.isSome=u.isSome:=by
 cases o with
 | none=>cases u with
  | none=>rfl
  | some _=>exact (show False from r).elim
 | some _=>cases u with
  | none=>exact (show False from r).elim
  | some _=>rfl
theorem Hd.getD {o:Option V} {u:Option Value} {d:V} {d':Value} (r:Hd o u) (rd:AM d d'):AM (o.getD d) (u.getD d'):=by
 cases o with
 | none=>cases u with
  | none=>exact rd
  | some _=>exact (show False from r).elim
 | some _=>cases u with
  | none=>exact (show False from r).elim
  | some _=>exact r
theorem KV.val {kvs:List (κ × V)} {vs:List (κ × Value)} (r:KV kvs vs) (k:κ):Hd (B9 kvs k) (valueAt vs k):=by
 unfold KV at r;induction r with
 | nil=>exact True.intro
 | @cons p q ps qs h t ih=>
  obtain ⟨h1,h2⟩:=h;by_cases e:p.1=k
  ·have e':q.1=k:=h1.symm.trans e;have b:valueAt (q :: qs) k=some q.2:=by simp [valueAt,bz,e']
   rw [BJ e,b]; exact h2
  ·have e':¬ q.1=k:=fun z=>e (h1.trans z)
   have b:valueAt (q :: qs) k=valueAt qs k:=by simp [valueAt,bz,e']
   rw [BB e,b]; exact ih
theorem KV.any {kvs:List (κ × V)} {vs:List (κ × Value)} (r:KV kvs vs) (k:κ):(kvs.any fun kv=>decide (kv.1=k))=vs.any fun kv=>decide (kv.1=k):=by
 unfold KV at r;induction r with
 | nil=>rfl
 | cons h t ih=>rw [bT,bT,ih,h.1]
theorem KV.repl {kvs:List (κ × V)} {vs:List (κ × Value)} (r:KV kvs vs) (k:κ) {y:V} {u:Value} (ry:AM y u) :
  KV (kvs.map fun kv=>if kv.1=k then (kv.1,y) else kv) (vs.map fun kv=>if kv.1=k then (kv.1,u) else kv):=by
 unfold KV at r ⊢;induction r with
 | nil=>exact .nil
 | @cons p q ps qs h t ih=>
  rw [ZS,ZS];refine .cons ?_ ih;obtain ⟨h1,h2⟩:=h;by_cases e:p.1=k
  ·rw [if_pos e,if_pos (h1.symm.trans e)]; exact ⟨h1,ry⟩
  ·rw [if_neg e,if_neg (fun z=>e (h1.trans z))]; exact ⟨h1,h2⟩
theorem KV.put {kvs:List (κ × V)} {vs:List (κ × Value)} (r:KV kvs vs) (k:κ) {y:V} {u:Value} (ry:AM y u):KV (BM kvs k y) (stored vs k u):=by
 unfold BM stored;rw [r.any k];by_cases e:(vs.any fun kv=>decide (kv.1=k))=true
 ·rw [if_pos e,if_pos e]; exact r.repl k ry
 ·rw [if_neg e,if_neg e]; exact Paired.snoc r ⟨rfl,ry⟩
theorem KV.drop {kvs:List (κ × V)} {vs:List (κ × Value)} (r:KV kvs vs) (k:κ):KV (Jv kvs k) (without vs k):=by
 unfold KV at r ⊢;unfold Jv without;induction r with
 | nil=>exact .nil
 | @cons p q ps qs h t ih=>
  obtain ⟨h1,h2⟩:=h;rw [cz,cz];by_cases e:p.1=k
  ·have a:¬ decide (p.1 ≠ k)=true:=by simp [e]
   have b:¬ decide (q.1 ≠ k)=true:=by simp [h1.symm.trans e]
   rw [if_neg a,if_neg b]; exact ih
  ·have e':¬ q.1=k:=fun z=>e (h1.trans z)
   have a:decide (p.1 ≠ k)=true:=by simp [e]
   have b:decide (q.1 ≠ k)=true:=by simp [e']
   rw [if_pos a,if_pos b]; exact .cons ⟨h1,h2⟩ ih
theorem KV.length {kvs:List (κ × V)} {vs:List (κ × Value)} (r:KV kvs vs):kvs.length=vs.length:=Paired.length r
theorem RZ (kvs:List (κ × V)) (k:κ):(Jv kvs k).length<=kvs.length:=e6 _ _
end
theorem HE {P:Program} {w:World} {k:Bj} {u:Value} (r:AM (kV k) u):(Bd P w).is k u=true:=by
 cases k with
 | inl i=>obtain ⟨t,e⟩:=(show ∃ t,u=Value.int i t from r); subst e; exact M5 P w i t
 | inr x=>obtain ⟨t,e⟩:=(show ∃ t,u=Value.str x t from r); subst e; exact HC P w x t
theorem Kz {P:Program} {w:World}:∀ {ks:List Bj} {us:List Value},AF (ks.map kV) us->ItemsAre (Bd P w) ks us
 | [],_,r=>by rw [cD] at r; cases r; exact .nil
 | k :: ks,_,r=>by
  rw [ZS] at r;cases r with
  | cons h t=>exact .cons (HE h) (Kz t)
abbrev KT (H:Hp):List (List Bj × V)->List (List Bj × Addr × Value)->Prop:=Paired fun p q=>p.1=q.1/\H q.2.1=some (.tup (p.1.map kV))/\AM p.2 q.2.2
theorem KT.val {H:Hp} {kvs:List (List Bj × V)} {xs:List (List Bj × Addr × Value)} (r:KT H kvs xs) (k:List Bj):Hd (B9 kvs k) ((atKey xs k).map (·.2)):=by
 induction r with
 | nil=>exact True.intro
 | @cons p q ps qs h t ih=>
  obtain ⟨h1,_,h2⟩:=h;by_cases e:p.1=k
  ·have e':q.1=k:=h1.symm.trans e;have b:atKey (q :: qs) k=some q.2:=by simp [atKey,bz,e']
   rw [BJ e,b]; exact h2
  ·have e':¬ q.1=k:=fun z=>e (h1.trans z)
   have b:atKey (q :: qs) k=atKey qs k:=by simp [atKey,bz,e']
   rw [BB e,b]; exact ih
theorem KT.repl {H:Hp} {kvs:List (List Bj × V)} {xs:List (List Bj × Addr × Value)} (r:KT H kvs xs) (k:List Bj) {y:V} {u:Value} (ry:AM y u) :
  KT H (kvs.map fun kv=>if kv.1=k then (kv.1,y) else kv) (xs.map (putAt k u)):=by
 induction r with
 | nil=>exact .nil
 | @cons p q ps qs h t ih=>
  rw [ZS,ZS];refine .cons ?_ ih;obtain ⟨h1,h2,h3⟩:=h;unfold putAt;by_cases e:p.1=k
  ·rw [if_pos e,if_pos (h1.symm.trans e)]; exact ⟨h1,h2,ry⟩
  ·rw [if_neg e,if_neg (fun z=>e (h1.trans z))]; exact ⟨h1,h2,h3⟩
theorem KT.put {H:Hp} {kvs:List (List Bj × V)} {xs:List (List Bj × Addr × Value)} (r:KT H kvs xs) (k:List Bj) {b:Addr} {y:V} {u:Value} (hb:H b=some (.tup (k.map kV))) (ry:AM y u) :
  KT H (BM kvs k y) (storedH xs k b u):=by
 have e:(kvs.any fun kv=>decide (kv.1=k))=(atKey xs k).isSome:=by
  rw [Co,(r.val k).isSome_eq,cY]
 unfold BM storedH;rw [e];by_cases q:(atKey xs k).isSome=true
 ·rw [if_pos q,if_pos q]; exact r.repl k ry
 ·rw [if_neg q,if_neg q]; exact Paired.snoc r ⟨rfl,hb,ry⟩
theorem KT.keeps {H H':Hp} {kvs:List (List Bj × V)} {xs:List (List Bj × Addr × Value)} (r:KT H kvs xs) (ht:∀ b ys,H b=some (.tup ys)->H' b=some (.tup ys)):KT H' kvs xs:=
 Paired.mapP r fun _ _ z=>⟨z.1,ht _ _ z.2.1,z.2.2⟩
section
variable {P:Program} {w:World} {H:Hp} {h:Heap} {a:Addr}
theorem Ub {u:HO} (ok:FE P w H h) (e:Rd H a u):AV P w H h a u:=e.ok ok
theorem Jw {kvs:List (Bj × V)} (ok:FE P w H h) (e:Rd H a (.dK kvs)):kvs.length<=sizeLine/\(a == sysModules)=false/\∃ vs,KV kvs vs/\h.DictOf (Bd P w) a vs:=
 show AV P w H h a (.dK kvs) from Ub ok e
theorem Sd {kvs:List (Bj × V)} (ok:FE P w H h) (e:H a=some (.dK kvs)):kvs.length<=sizeLine/\(a == sysModules)=false/\∃ vs,KV kvs vs/\h.DictOf (Bd P w) a vs:=Jw ok (.inl e)
theorem GQ {ks:List Bj} (ok:FE P w H h) (e:H a=some (.tup (ks.map kV))):(tupleKind (Bd P w)).is h ks a:=by
 obtain ⟨_,Av,r,⟨o,h1,h2,n,h3⟩,_⟩:=(show AV P w H h a (.tup (ks.map kV)) from ok a _ e)
 exact ⟨o,Av.toArray,n,h1,h2,h3,by simpa using Kz r⟩
theorem Jt {kvs:List (List Bj × V)} (ok:FE P w H h) (e:Rd H a (.dT kvs)):kvs.length<=sizeLine/\(a == sysModules)=false /\
  ∃ xs,KT H kvs xs/\h.DictOfH (tupleKind (Bd P w)) a xs:=by
 obtain ⟨z,y,xs,r,o,es,ep,h1,h2,h3,h4,h5⟩:=(show AV P w H h a (.dT kvs) from Ub ok e)
 refine ⟨z,y,xs,r,o,es,ep,h1,h2,h3,h4,fun x hx=>?_,h5⟩;have all:∀ {l:List (List Bj × V)} {m:List (List Bj × Addr × Value)},KT H l m->∀ x ∈ m,(tupleKind (Bd P w)).is h x.1 x.2.1:=by
  intro l m q;induction q with
  | nil=>intro x hx; exact nomatch hx
  | @cons p q ps qs hq t ih=>
   intro x hx;rcases ZF.mp hx with e | hx
   ·subst e;exact GQ ok (by rw [<-hq.1]; exact hq.2.1)
   ·exact ih x hx
 exact all r x hx
theorem dt_of {kvs:List (List Bj × V)} (ok:FE P w H h) (e:H a=some (.dT kvs)):kvs.length<=sizeLine/\(a == sysModules)=false /\
  ∃ xs,KT H kvs xs/\h.DictOfH (tupleKind (Bd P w)) a xs:=Jt ok (.inl e)
end
def Cn (H:Hp) (a:Addr) (y:V) (r:Option V):Prop:=
 (∃ kvs k,Rd H a (.dK kvs)/\y=kV k/\r=B9 kvs k)\/∃ kvs k b,Rd H a (.dT kvs)/\y=.ref b/\H b=some (.tup (k.map kV))/\r=B9 kvs k
def FD (H:Hp) (a:Addr) (y v:V) (H':Hp):Prop:=
 (∃ kvs k,H a=some (.dK kvs)/\y=kV k/\kvs.length < sizeLine/\H'=upd H a (.dK (BM kvs k v))) \/
 ∃ kvs k b,H a=some (.dT kvs)/\y=.ref b/\H b=some (.tup (k.map kV))/\kvs.length < sizeLine/\H'=upd H a (.dT (BM kvs k v))
theorem Cn.k {H:Hp} {a:Addr} {kvs:List (Bj × V)} {k:Bj} (e:H a=some (.dK kvs)):Cn H a (kV k) (B9 kvs k):=.inl ⟨kvs,k,.inl e,rfl,rfl⟩
theorem Cn.t {H:Hp} {a b:Addr} {kvs:List (List Bj × V)} {k:List Bj} (e:H a=some (.dT kvs)) (eb:H b=some (.tup (k.map kV))):Cn H a (.ref b) (B9 kvs k):=.inr ⟨kvs,k,b,.inl e,rfl,eb,rfl⟩
theorem FD.k {H:Hp} {a:Addr} {kvs:List (Bj × V)} {k:Bj} {v:V} (e:H a=some (.dK kvs)) (hl:kvs.length < sizeLine):FD H a (kV k) v (upd H a (.dK (BM kvs k v))):=.inl ⟨kvs,k,e,rfl,hl,rfl⟩
theorem FD.t {H:Hp} {a b:Addr} {kvs:List (List Bj × V)} {k:List Bj} {v:V} (e:H a=some (.dT kvs)) (eb:H b=some (.tup (k.map kV))) (hl:kvs.length < sizeLine) :
  FD H a (.ref b) v (upd H a (.dT (BM kvs k v))):=.inr ⟨kvs,k,b,e,rfl,eb,hl,rfl⟩
section
variable {X:Cx} {pins:List (Addr × Obj)} {σ:St} {H:Hp} {s:Shared} {a:Addr} {y v:V} {u r:Value} {o:Option V} {A:Around} {E:Value->Shared->Prop}
theorem Au.big (I:Au X pins σ H s):sysModules < s.heap.objs.size:=by
 have h:mainGlobals < s.heap.objs.size:=(I.mod.glob.keeps I.bk).lt;exact Nat.lt_trans (by decide) h
theorem Qw {Q:Value->Shared->Prop} (hu:A.units + 1 < cLine) (I:Au X pins σ H s) (g:Cn H a y (some v)) (ry:AM y u) (h:∀ w' s',Au X pins σ H s'->AM v w'->Q w' s') :
  wpAny (model X.prog X.w) A (getItem (.ref a) u) Q E s:=by
 rcases g with ⟨kvs,k,e,ey,l⟩ | ⟨kvs,k,b,e,ey,eb,l⟩
 ·subst ey;obtain ⟨z,hd,vs,rel,dd⟩:=Jw I.hok e;obtain ⟨w',hw,Pr⟩:=Hd.some_of (v:=v) (o:=valueAt vs k) (by rw [l]; exact rel.val k);exact wpAny_getItem_of (HE ry) dd.mapOf hw (h w' _ (I.tok _) Pr)
 ·subst ey;cases (show u=Value.ref b from ry)
  obtain ⟨z,hd,xs,rel,dd⟩:=Jt I.hok e;obtain ⟨w',hw,Pr⟩:=Hd.some_of (v:=v) (o:=(atKey xs k).map (·.2)) (by rw [l]; exact rel.val k);obtain ⟨p,hp,hp2⟩:=Option.map_eq_some_iff.mp hw;refine wpAny_getItem_heap (tupleKind_room_in1 hu) (GQ I.hok eb) dd hp ?_;rw [hp2];exact h w' _ (I.tok _) Pr
theorem d_in {Q:Value->Shared->Prop} (hu:A.units + 1 < cLine) (I:Au X pins σ H s) (g:Cn H a y o) (ry:AM y u) (h:∀ s',Au X pins σ H s'->Q (.bool o.isSome) s') :
  wpAny (model X.prog X.w) A (compareOp .In u (.ref a)) Q E s:=by
 rcases g with ⟨kvs,k,e,ey,l⟩ | ⟨kvs,k,b,e,ey,eb,l⟩
 ·subst ey;obtain ⟨z,hd,vs,rel,dd⟩:=Jw I.hok e;refine wpAny_in_of (HE ry) hd dd.mapOf ?_;rw [<-(rel.val k).isSome_eq,<-l];exact h _ (I.tok _)
 ·subst ey;cases (show u=Value.ref b from ry)
  obtain ⟨z,hd,xs,rel,dd⟩:=Jt I.hok e;refine wpAny_in_heap (tupleKind_room_in1 hu) (GQ I.hok eb) hd dd ?_;have q:=(rel.val k).isSome_eq;rw [cY] at q;rw [<-q,<-l];exact h _ (I.tok _)
theorem T9 {Q:Value->Shared->Prop} (hu:A.units + 1 < cLine) (I:Au X pins σ H s) (g:Cn H a y o) (ry:AM y u) (h:∀ s',Au X pins σ H s'->Q (.bool (!o.isSome)) s') :
  wpAny (model X.prog X.w) A (compareOp .NotIn u (.ref a)) Q E s:=by
 rcases g with ⟨kvs,k,e,ey,l⟩ | ⟨kvs,k,b,e,ey,eb,l⟩
 ·subst ey;obtain ⟨z,hd,vs,rel,dd⟩:=Jw I.hok e;refine wpAny_notIn_of (HE ry) hd dd.mapOf ?_;rw [<-(rel.val k).isSome_eq,<-l];exact h _ (I.tok _)
 ·subst ey;cases (show u=Value.ref b from ry)
  obtain ⟨z,hd,xs,rel,dd⟩:=Jt I.hok e;refine wpAny_notIn_heap (tupleKind_room_in1 hu) (GQ I.hok eb) hd dd ?_;have q:=(rel.val k).isSome_eq;rw [cY] at q;rw [<-q,<-l];exact h _ (I.tok _)
theorem Ir {h':Heap} {t':Nat} {ob:HO} (I:Au X pins σ H s) (mu:Mut (H a)) (hs:Heap.SameBut a s.heap h') (he:∃ q,h'.get? a=some q) (new:AV X.prog X.w (upd H a ob) h' a ob) :
  Au X pins σ (upd H a ob) { s with heap:=h',toks:=t' }:=
 I.write (x:=a) (e:=a) mu (.inl rfl) (fun b q hb z=>(hs.2 b hb).trans z) he new
theorem L6 {P:Program} {w:World} {H':Hp} {h':Heap} {kvs:List (Bj × V)} {vs:List (Bj × Value)} (z:kvs.length<=sizeLine) (hd:(a == sysModules)=false) (rel:KV kvs vs) (dd:h'.DictOf (Bd P w) a vs) :
  AV P w H' h' a (.dK kvs):=⟨z,hd,vs,rel,dd⟩
theorem Qv {H':Hp} {Q:Unit->Shared->Prop} (hu:A.units + 1 < cLine) (I:Au X pins σ H s) (g:FD H a y v H') (ry:AM y u) (rv:AM v r) (h:∀ s',Au X pins σ H' s'->Q () s') :
  wpAny (model X.prog X.w) A (setItem (.ref a) u r) Q E s:=by
 rcases g with ⟨kvs,k,e,ey,l,eH⟩ | ⟨kvs,k,b,e,ey,eb,l,eH⟩
 ·subst ey eH;obtain ⟨z,hd,vs,rel,dd⟩:=Sd I.hok e;have hz:vs.length<=sizeLine:=by rw [<-rel.length]; exact z
  have hl:(BM kvs k v).length<=sizeLine:=by have:=CD kvs k v; lia
  refine wpAny_setItem_pairs (hsz:=hz) (HE ry) dd fun h' MZ hs=>h _ ?_
  have he:∃ q,h'.get? a=some q:=let ⟨q,_,_,hq,_⟩:=MZ; ⟨q,hq⟩;exact Ir I (by rw [e]; exact True.intro) hs he (L6 hl hd (rel.put k rv) MZ)
 ·subst ey eH;cases (show u=Value.ref b from ry)
  obtain ⟨z,hd,xs,rel,dd⟩:=dt_of I.hok e;have hz:xs.length<=sizeLine:=by rw [<-Paired.length rel]; exact z
  have hl:(BM kvs k v).length<=sizeLine:=by have:=CD kvs k v; lia
  refine wpAny_setItem_heap (hsz:=hz) (tupleKind_room_in1 hu) (GQ I.hok eb) dd fun h' MZ hs=>h _ ?_
  obtain ⟨q,es,ep,hq,h2,h3,h4,_,h5⟩:=MZ;refine Ir I (by rw [e]; exact True.intro) hs ⟨q,hq⟩ ⟨hl,hd,_,(rel.put k eb rv).keeps fun c ys ec=>?_,q,es,ep,hq,h2,h3,h4,h5⟩;rw [Ae (Cy ec e (fun z=>nomatch z))];exact ec
end
section
variable {X:Cx} {pins:List (Addr × Obj)} {σ:St} {H:Hp} {s:Shared} {a:Addr} {kvs:List (Bj × V)} {k:Bj} {u:Value} {A:Around} {E:Value->Shared->Prop}
theorem Qx {Q:Unit->Shared->Prop} (I:Au X pins σ H s) (e:H a=some (.dK kvs)) (ry:AM (kV k) u) (l:(B9 kvs k).isSome=true) (h:∀ s',Au X pins σ (upd H a (.dK (Jv kvs k))) s'->Q () s') :
  wpAny (model X.prog X.w) A (delItem (.ref a) u) Q E s:=by
 obtain ⟨z,hd,vs,rel,dd⟩:=Sd I.hok e;refine wpAny_delItem_slot dd.typeIs (by decide) PySem.F.slot_dict_delitem
  (call_meetsIn PySem.F.slot_dict_delitem dd.typeIs PySem.F.entry_dict_delitem (PySem.F.args_dict_delitem_2 _ _) (meets_dict_delitem_pairs (Bd X.prog X.w) a (HE ry)) ⟨vs,dd,by rw [<-rel.length]; exact z,by rw [<-(rel.val k).isSome_eq]; exact l,fun h' MZ hs=>h _ ?_⟩)
 have he:∃ q,h'.get? a=some q:=let ⟨q,_,_,hq,_⟩:=MZ; ⟨q,hq⟩;exact Ir I (by rw [e]; exact True.intro) hs he (L6 (aj (RZ kvs k) z) hd (rel.drop k) MZ)
end
def NoSl (i:Expr):Prop:=∀ ov iv,subscripted i false ov iv=operate [ov,iv] (getItem ov iv)
theorem S9 {prog:Program} {w:World} {A:Around} {E:Value->Shared->Prop} {s:Shared} {env:Env} {value slice:Expr} {pos:Pos} {T id:String} {Q:Value->Shared->Prop}
  (hl:typeLookup (.type T) "__getitem__"=pure (some (.builtin id))) (hs:NoSl slice)
  (h:wpAny (model prog w) A (eval value env) (fun o Bc=>wpAny (model prog w) A (eval slice env) (fun i E7=>E7.TypeIs o T/\wpAny (model prog w) A (getItem o i) Q E E7) E Bc) E s) :
  wpAny (model prog w) A (eval (.Subscript value slice pos) env) Q E s:=by
 refine Subscript_ (wpAny_mono h (fun o Bc B3=>wpAny_mono B3 (fun i E7 GV=>?_) fun _ _ x=>x) fun _ _ x=>x);obtain ⟨hT,GV⟩:=GV;unfold subscriptTail;refine wpAny_bind ?_;rw [getitemInPython_of_ne hT.not_modules];refine wpAny_bind (wpAny_specialOf hT hl ?_);have fin:wpAny (model prog w) A (subscripted slice false o i) (fun r CB=>wpAny (model prog w) A (letTemporaryGo value o r >>= fun _=>pure r) Q E CB) E E7:=by
  rw [hs o i];exact wpAny_operating (wpAny_mono GV (fun r CB HU=>wpAny_bind (wpAny_letTemporaryGo (wpAny_pure HU))) fun _ _ x=>x)
 first
  | exact wpAny_pure (wpAny_bind fin)
  | exact wpAny_bind (wpAny_pure (wpAny_bind fin))
  | exact wpAny_bind fin
theorem MI {X:Cx} {pins:List (Addr × Obj)} {σ:St} {H:Hp} {s:Shared} {a:Addr} {y:V} {o:Option V} (I:Au X pins σ H s) (g:Cn H a y o):s.TypeIs (.ref a) "dict":=by
 rcases g with ⟨kvs,k,e,_,_⟩ | ⟨kvs,k,b,e,_,_,_⟩
 ·obtain ⟨_,_,vs,_,dd⟩:=Jw I.hok e;exact dd.typeIs
 ·obtain ⟨_,_,xs,_,dd⟩:=Jt I.hok e;exact dd.typeIs
def tDGet (td ty:TE):TE:=fun σ H Q=>td σ H fun x H1=>ty σ H1 fun y H2=>∃ a v,x=.ref a/\Cn H2 a y (some v)/\Q v H2
def tDIn (ty td:TE):TE:=fun σ H Q=>ty σ H fun y H1=>td σ H1 fun x H2=>∃ a o,x=.ref a/\Cn H2 a y o/\Q (.bl o.isSome) H2
def S7 (ty td:TE):TE:=fun σ H Q=>ty σ H fun y H1=>td σ H1 fun x H2=>∃ a o,x=.ref a/\Cn H2 a y o/\Q (.bl (!o.isSome)) H2
def sDPut (td ty tv:TE):TS:=fun D σ H=>tv σ H fun v H1=>td σ H1 fun x H2=>ty σ H2 fun y H3=>∃ a H4,x=.ref a/\FD H3 a y v H4/\D.nx σ H4
def sDDel (td ty:TE):TS:=fun D σ H=>td σ H fun x H1=>ty σ H1 fun y H2=>∃ a kvs k,x=.ref a/\H2 a=some (.dK kvs)/\y=kV k/\(B9 kvs k).isSome=true/\D.nx σ (upd H2 a (.dK (Jv kvs k)))
section
variable {X:Cx} {o i e value:Expr} {pos pos' tpos:Pos} {td ty tv:TE}
theorem AW (hu:X.A.units + 1 < cLine) (ho:PE X o td) (hi:PE X i ty) (hs:NoSl i):PE X (.Subscript o i pos) (tDGet td ty):=by
 intro pins s σ H Q I h;refine S9 PySem.F.slot_dict_getitem.lookup hs (B0 (ho pins s σ H _ I h) fun u s1 ⟨x,H1,I1,rx,q1⟩=>B0 (hi pins s1 σ H1 _ I1 q1) fun iv s2 ⟨y,H2,I2,ry,a,v,ex,g,q2⟩=>?_);subst ex;obtain rfl:u=Value.ref a:=rx;exact ⟨MI I2 g,Qw hu I2 g ry fun w' s3 I3 Pr=>⟨v,H2,I3,Pr,q2⟩⟩
theorem Vi (hu:X.A.units + 1 < cLine) (hi:PE X i ty) (ho:PE X o td):PC X .In i o (tDIn ty td):=by
 intro pins s σ H Q I h;refine B0 (hi pins s σ H _ I h) fun iv s1 ⟨y,H1,I1,ry,q1⟩=>B0 (ho pins s1 σ H1 _ I1 q1) fun u s2 ⟨x,H2,I2,rx,a,ov,ex,g,q2⟩=>?_
 subst ex;obtain rfl:u=Value.ref a:=rx;exact d_in hu I2 g ry fun s3 I3=>⟨.bl ov.isSome,H2,I3,rfl,q2⟩
theorem PF (hu:X.A.units + 1 < cLine) (hi:PE X i ty) (ho:PE X o td):PC X .NotIn i o (S7 ty td):=by
 intro pins s σ H Q I h;refine B0 (hi pins s σ H _ I h) fun iv s1 ⟨y,H1,I1,ry,q1⟩=>B0 (ho pins s1 σ H1 _ I1 q1) fun u s2 ⟨x,H2,I2,rx,a,ov,ex,g,q2⟩=>?_
 subst ex;obtain rfl:u=Value.ref a:=rx;exact T9 hu I2 g ry fun s3 I3=>⟨.bl (!ov.isSome),H2,I3,rfl,q2⟩
theorem DG (hu:X.A.units + 1 < cLine) (ho:PE X o td) (hi:PE X i ty) (hv:PE X value tv) (hs:swapsWith value (some (.Subscript o i pos')) pos.line X.env=pure false) :
  PS X (.Assign [.Subscript o i pos'] value pos) (sDPut td ty tv):=by
 intro pins s σ H D I h;refine wpAny_Assign_Subscript (B0 (hv pins s σ H _ I h) fun r s1 ⟨v,H1,I1,rv,q1⟩=>B0 (ho pins s1 σ H1 _ I1 q1) fun u s2 ⟨x,H2,I2,rx,q2⟩=>B0 (hi pins s2 σ H2 _ I2 q2) fun iv s3 ⟨y,H3,I3,ry,a,H4,ex,g,q3⟩=>?_) hs;subst ex;obtain rfl:u=Value.ref a:=rx;exact Qv hu I3 g ry rv fun s4 I4=>⟨σ,H4,I4,q3⟩
theorem SN (ho:PE X o td) (hi:PE X i ty):PS X (.Delete [.Subscript o i tpos] pos) (sDDel td ty):=by
 intro pins s σ H D I h;refine wpAny_Delete (wpAny_deleteEach_cons (wpAny_delete_Subscript (B0 (ho pins s σ H _ I h) fun u s1 ⟨x,H1,I1,rx,q1⟩=>B0 (hi pins s1 σ H1 _ I1 q1) fun iv s2 ⟨y,H2,I2,ry,a,kvs,k,ex,e,ey,l,q2⟩=>?_)));subst ex ey;obtain rfl:u=Value.ref a:=rx;exact Qx I2 e ry l fun s3 I3=>wpAny_deleteEach_nil ⟨σ,_,I3,q2⟩
end
theorem Jx {P:Program} {w:World} {H:Hp} (h:Heap) (hb:sysModules < h.objs.size):AV P w H (h.push { cls:=.type "dict",data:=.dict #[] }) h.objs.size (.dK []):=
 ⟨ao _,beq_eq_false_iff_ne.mpr (Ne.symm (ZQ hb)),[],.nil,Heap.DictOf.new h⟩
theorem RY {P:Program} {w:World} {H:Hp} (h:Heap) (hb:sysModules < h.objs.size):AV P w H (h.push { cls:=.type "dict",data:=.dict #[] }) h.objs.size (.dT []):=
 ⟨ao _,beq_eq_false_iff_ne.mpr (Ne.symm (ZQ hb)),[],.nil,_,#[],0,ZM _ rfl,⟨rfl,rfl,rfl⟩,rfl,rfl,dG⟩
def UL:TE:=fun _ H Q=>∀ p,H p=none->Q (.ref p) (upd H p (.dK []))
def UK:TE:=fun _ H Q=>∀ p,H p=none->Q (.ref p) (upd H p (.dT []))
section
variable {X:Cx} {pos:Pos}
theorem Ml:PE X (.Dict [] [] pos) UL:=fun pins s σ H Q I h=>
 wpAny_Dict_empty ⟨.ref s.heap.objs.size,_,I.laid (a:=s.heap.objs.size) (o:=.dK []) (t':=s.toks) (fun _ _ q=>ZC _ q) (ZJ _) (Jx s.heap I.big),rfl,h _ (I.hok.fresh (ZJ _))⟩
theorem R1:PE X (.Dict [] [] pos) UK:=fun pins s σ H Q I h=>
 wpAny_Dict_empty ⟨.ref s.heap.objs.size,_,I.laid (a:=s.heap.objs.size) (o:=.dT []) (t':=s.toks) (fun _ _ q=>ZC _ q) (ZJ _) (RY s.heap I.big),rfl,h _ (I.hok.fresh (ZJ _))⟩
end
def Je (kvs more:List (Bj × V)):List (Bj × V):=more.foldl (fun acc kv=>BM acc kv.1 kv.2) kvs
structure M2 (X:Cx) (o:Expr) (m:Str) (apos:Pos) (e f:Expr) (DO:Pos):Prop where
 base:attributeBase o m X.env (eval o X.env)=eval o X.env
 few:((backTo DO (starEach [e,f] X.env)).all (fun x=>!x.1) && (backToKw DO (keywordEach [] X.env)).all (fun x=>x.1.isSome)
  && decide (([e,f]:List Expr).length + ([]:List Keyword).length + (if ([]:List Keyword).isEmpty then 0 else 1) < 30))=true
 line:(apos.endLine == DO.line)=true
 trees:backTo DO (starEach [e,f] X.env)=[(false,eval e X.env),(false,eval f X.env)]
def IsD (H:Hp) (a:Addr):Prop:=(∃ kvs,Rd H a (.dK kvs))\/∃ kvs,Rd H a (.dT kvs)
theorem Vx {X:Cx} {pins:List (Addr × Obj)} {σ:St} {H:Hp} {s:Shared} {a:Addr} (I:Au X pins σ H s) (d:IsD H a) :
  s.TypeIs (.ref a) "dict"/\(∀ b,Value.ref a=.ref b->∃ ob,s.heap.get? b=some ob/\ob.dict=none)/\(a == sysModules)=false:=by
 rcases d with ⟨kvs,e⟩ | ⟨kvs,e⟩
 ·obtain ⟨_,hd,vs,_,dd⟩:=Jw I.hok e;refine ⟨dd.typeIs,fun b q=>?_,hd⟩;cases q
  obtain ⟨ob,_,_,h1,h2,_⟩:=dd;exact ⟨ob,h1,h2.2.1⟩
 ·obtain ⟨_,hd,xs,_,dd⟩:=Jt I.hok e;refine ⟨dd.typeIs,fun b q=>?_,hd⟩;cases q
  obtain ⟨ob,_,_,h1,h2,_⟩:=dd;exact ⟨ob,h1,h2.2.1⟩
section
variable {X:Cx} {pins:List (Addr × Obj)} {σ:St} {H:Hp} {s:Shared} {a:Addr} {y d:V} {u r:Value} {o:Option V} {A:Around} {E:Value->Shared->Prop}
theorem VB {Q:Value->Shared->Prop} (hu:A.units + 1 < cLine) (I:Au X pins σ H s) (g:Cn H a y o) (ry:AM y u) (rd:AM d r) (h:∀ w' s',Au X pins σ H s'->AM (o.getD d) w'->Q w' s') :
  wpAny (model X.prog X.w) A (call (.builtin "dict.get") [.ref a,u,r]) Q E s:=by
 rcases g with ⟨kvs,k,e,ey,l⟩ | ⟨kvs,k,b,e,ey,eb,l⟩
 ·subst ey;obtain ⟨z,hd,vs,rel,dd⟩:=Jw I.hok e;refine call_meetsIn PySem.F.slot_dict_get dd.typeIs PySem.F.entry_dict_get (PySem.F.args_dict_get_3 _ _ _) (meets_dict_get_default (Bd X.prog X.w) a (HE ry) hd r) ⟨_,dd.mapOf,h _ _ (I.tok _) ?_⟩;rw [l];exact (rel.val k).getD rd
 ·subst ey;cases (show u=Value.ref b from ry)
  obtain ⟨z,hd,xs,rel,dd⟩:=Jt I.hok e;refine call_meetsIn PySem.F.slot_dict_get dd.typeIs PySem.F.entry_dict_get (PySem.F.args_dict_get_3 _ _ _) (meetsH_dict_get_default (tupleKind (Bd X.prog X.w)) a b hd r) ⟨tupleKind_room_in1 hu,k,xs,GQ I.hok eb,dd,h _ _ (I.tok _) ?_⟩;rw [l];exact (rel.val k).getD rd
end
def UM (td ty tx:TE):TE:=fun σ H Q=>td σ H fun x H1=>∃ a,x=.ref a/\IsD H1 a/\ty σ H1 fun y H2=>tx σ H2 fun z H3=>∃ o,Cn H3 a y o/\Q (o.getD z) H3
section
variable {X:Cx} {o e f:Expr} {apos DO:Pos} {td ty tx:TE}
theorem R3 (hu:X.A.units + 1 < cLine) (ho:PE X o td) (he:PE X e ty) (hf:PE X f tx) (m:M2 X o "get" apos e f DO):PE X (.Call (.Attribute o "get" apos) [e,f] [] DO) (UM td ty tx):=by
 intro pins s σ H Q I h;refine wpAny_Call_method m.base m.few m.line PySem.F.plainAttrs_dict PySem.F.slot_dict_get PySem.F.type_dict_get (B0 (ho pins s σ H _ I h) fun u s1 ⟨x,H1,I1,rx,a,ex,d,q1⟩=>?_);subst ex;obtain rfl:u=Value.ref a:=rx;obtain ⟨t1,t2,_⟩:=Vx I1 d;exists t1,t2;rw [m.trees];refine Calls.callWith_builtin rfl (Calls.evalArgs_plain (Calls.spliced_cons (B0 (he pins s1 σ H1 _ I1 q1) fun iv s2 ⟨y,H2,I2,ry,q2⟩=>
  Calls.spliced_cons (B0 (hf pins s2 σ H2 _ I2 q2) fun fv s3 ⟨z,H3,I3,rz,ov,g,q3⟩=>Calls.spliced_nil ?_))))
 exact VB hu I3 g ry rz fun w' s4 I4 Pr=>⟨_,H3,I4,Pr,q3⟩
end
section
variable {X:Cx} {pins:List (Addr × Obj)} {σ:St} {H:Hp} {s:Shared} {a:Addr} {kvs:List (Bj × V)} {A:Around} {E:Value->Shared->Prop}
end
section
variable {X:Cx} {pins:List (Addr × Obj)} {σ:St} {H:Hp} {s:Shared} {a:Addr} {y:V} {u:Value} {A:Around} {E:Value->Shared->Prop}
end
end L2
namespace Att
open PySem PySem.W PySem.Calls PyProof.Rows
theorem HS {P:Params} {h:Heap}:∀ (ns:List Int) (vs:List Value),WellAll P h vs (ns.map WData.int)->IntsAre vs ns:=by
 intro ns;induction ns with
 | nil=>
  intro vs w;rw [cD] at w;cases w
  exact .nil
 | cons n ns ih=>
  intro vs w;rw [ZS] at w;cases w with
  | cons a b=>
   cases a
   exact .cons _ _ (ih _ b)
theorem Pq {l:OpenLaw} {n:Nat} (hn:l.most=some n) {P:Params} {h:Heap} {args:List WData} {vals:List Value}
  (hpre:l.row.toRowW.claim.pre args=true) (hwl:WellAll P h vals args) :
  ∃ a vs ns,vals=[Value.ref a]/\args=[WData.list (ns.map WData.int)]/\h.get? a=some { cls:=.type "list",data:=.seq vs.toArray }/\IntsAre vs ns/\ns.length<=n:=by
 have hsh:WShape.hasAll [] args [.list .int]=true:=(pre_splitW hpre).1;have hc:l.pre.holds [] { args:=args } = true:=(pre_splitW hpre).2;obtain ⟨d,r,rfl,h1,h2⟩:=hasAllW_cons hsh;obtain rfl:=hasAllW_nil h2;obtain ⟨xs,rfl,h3⟩:=hasW_list h1;obtain ⟨ns,rfl⟩:=items_int h3;have hlen:ns.length<=n:=by
  unfold OpenLaw.pre at hc;have h4:(WTm.not (.lt (.lit (.int (n:Int))) (.len (.arg 0)))).holds [] { args:=[.list (ns.map .int)] } = true:=by
   have h4:=(holds_andW hc).1;rw [hn] at h4;exact h4
  have h5:=condW_of h4 (w_not (w_lt w_lit (w_len_list (w_arg rfl))));rw [ZA] at h5;refine Nat.le_of_not_lt fun q=>?_
  have q':(n:Int) < ((ns.length:Nat):Int):=by lia
  first
   | (rw [decide_eq_true q'] at h5; exact absurd h5 (by decide))
   | (simp at h5; lia)
 cases hwl with
 | cons w1 w2=>
  cases w2
  cases w1 with
  | list ho hall=>exact ⟨_,_,ns,rfl,rfl,ho,HS ns _ hall,hlen⟩
theorem Pz (l:OpenLaw) (args:List WData):l.row.toRowW.claim.post args (.bool true) args=true:=
 postW_of (r:=l.row.toRowW) (X:=(true == true))
  (show WShape.has [] (.bool true) .bool=true by first | rfl | decide | simp [WShape.has,WShape.arms,WShape.armsAll])
  (show (WTm.eq .res (.lit (.bool true))).value [] { args:=args,res:=some (.bool true),after:=args } = some (.bool (true == true)) from w_eq_bool (w_res rfl) w_lit) rfl
theorem attach_call {l:OpenLaw} {n:Nat} {q:Program} {loose:List Str} {XP:(Str->Option Value)->Heap->Prop} {YP:World->Heap->Prop} {d:DefRec}
  (hn:l.most=some n) (hdf:d.params.defaults=[])
  (call:∀ (w:World) (s₀ Bc:Shared) (mg mb:Str->Option Value) (fa:Addr) (o:Obj) (pm cd doc:Value) (a:Addr) (vs:List Value) (ns:List Int),
   Ground q loose [] XP w s₀ mg mb Bc.heap->YP w Bc.heap ->
   Bc.heap.get? fa=some o->o.data=.func (docDef d.name d.params d.body d.scope pm cd doc)->Bc.heap.CodeRec cd d.name->mg d.name=some (.ref fa) ->
   Bc.heap.get? a=some { cls:=.type "list",data:=.seq vs.toArray }->IntsAre vs ns->ns.length<=n->Bc.gens=#[] ->
   codeAny (model l.prog w) callerA (.call (.ref fa) ⟨[.ref a],[]⟩) (fun r s'=>r=.ok (.ret (.bool true))/\OldK Bc.heap s'.heap/\s'.os=Bc.os/\AllBare s'.gens) Bc) :
  WalkO q loose XP YP l.row.toRowW d [] (fun f vs=>PySem.call f vs):=by
 intro w s₀ Bc mg mb G Y fa o pm cd doc dV kV ho hd hcd hD hmg hg args vals as hpre hlay hrd hwl hlo;obtain rfl:dV=.none:=Dflts.none hD hdf;obtain rfl:kV=.none:=Dflts.noKw hD;obtain ⟨a,vs,ns,rfl,rfl,hobj,hints,hlen⟩:=Pq hn hpre hwl;refine enter_call (codeAny_mono (call w s₀ Bc mg mb fa o pm cd doc a vs ns G Y ho (fd_plain hd) hcd hmg hobj hints hlen hg) fun r s' hq=>?_);obtain ⟨rfl,h2,h3,h4⟩:=hq;exact ⟨.inl ⟨.bool true,.bool true,[],rfl,fun _=>rfl,.bool true,Pz l _,fun _=>⟨List.Pairwise.nil,fun _ hm=>(nomatch hm)⟩⟩,h2,h3,h4⟩
section
variable {prog:Program} {w:World} {A:Around} {E:Value->Shared->Prop} {s:Shared} {K:Frag}
end
end Att
namespace L2
open PySem PySem.Spec PyProof.Rows
theorem Ka:∀ {vs:List Value} {ns:List Int},IntsAre vs ns->AF (ns.map V.int) vs
 | _,_,.nil=>.nil
 | _,_,.cons n t h=>.cons ⟨t,rfl⟩ (Ka h)
def TK (H:Hp):Prop:=∀ b,H b=none\/∃ o xs,H b=some (.frz o (.lst xs))
theorem RH {P:Program} {w:World} {K:ZD} {mg mb:Str->Option Value} {CX:Sl} {k:Nat} {fa a:Addr} {fd:FuncData} {x:Str} {sp:Sp} {Bc:Shared} {vs:List Value} {ns:List Int}
  (KX:K.In Bc.heap) (hns:Bc.heap.Ns mainGlobals mg) (hb:Bc.heap.Ns builtinsNs mb) (hbb:∀ x:Str,x ≠ "__name__"->mb x=bootBuiltins x) (hlim:Bc.heap.NoLimit) (hg:Bc.gens=#[])
  (ha:Bc.heap.get? a=some { cls:=.type "list",data:=.seq vs.toArray }) (hi:IntsAre vs ns) (hl:ns.length<=sizeLine) (hr:Ex k callerA)
  (F:∀ base:Heap,K.In base->base.Ns mainGlobals mg->A8 P w K mg base CX k fa fd [x] sp) (hbind:∀ (s:Shared) (u:Value),BindsTo s fd ⟨[u],[]⟩ [(x,u)])
  (hsp:∀ H:Hp,TK H->AZ K H a (ns.map V.int)->sp [.ref a] H (fun v _=>v=.bl true) fun _ _ _=>False)
  (hCX:∀ H e s',CX [] H Bc (fun _ _ _=>False) e s'->False) :
  codeAny (model P w) callerA (.call (.ref fa) ⟨[.ref a],[]⟩) (fun r s'=>r=.ok (.ret (.bool true))/\OldK Bc.heap s'.heap/\s'.os=Bc.os/\AllBare s'.gens) Bc:=by
 have rv:=Ka hi;have lenV:=hi.length;have core:∀ H:Hp,TK H->AZ K H a (ns.map V.int)->FE P w H Bc.heap->(∀ b,H b ≠ none->b=a)->(H a ≠ none->K.lookup a=none) ->
   codeAny (model P w) callerA (.call (.ref fa) ⟨[.ref a],[]⟩) (fun r s'=>r=.ok (.ret (.bool true))/\OldK Bc.heap s'.heap/\s'.os=Bc.os/\AllBare s'.gens) Bc:=by
  intro H hO hS hok hA hK;have base_of:∀ {b:Addr} {o:Obj},Bc.heap.get? b=some o->H b=none->(Ly Bc.heap H).get? b=some o:=fun e n=>RS e n
  have noA:∀ {b:Addr} {o:Obj} {es:Array DictEntry} {ep:Nat},Bc.heap.get? b=some o->o.data=.dict es ep->H b=none:=fun {b o es ep} e d=>by
   cases q:H b with
   | none=>rfl
   | some u=>
    have e':b=a:=hA b (by rw [q]; simp);subst e';rw [ha] at e; cases e;have d':Data.seq vs.toArray _=Data.dict es ep:=d;cases d'
  have nsK:∀ {b:Addr} {m:Str->Option Value},Bc.heap.Ns b m->(Ly Bc.heap H).Ns b m:=fun {b m} ⟨o,es,ep,e,d,r⟩=>⟨o,es,ep,base_of e (noA e d),d,r⟩
  have hKb:K.In (Ly Bc.heap H):=fun b o e=>base_of (KX b o e) (by
   cases q:H b with
   | none=>rfl
   | some u=>
    have e':b=a:=hA b (by rw [q]; simp);subst e';rw [hK (by rw [q]; simp)] at e; cases e)
  have hM:Mod K mg (Ly Bc.heap H):=⟨hKb,nsK hns,⟨mb,nsK hb,hbb⟩,let ⟨mc,h1,h2⟩:=hlim; ⟨mc,nsK h1,h2⟩⟩
  have e0:TM P w K mg (Ly Bc.heap H) callerA [] Bc H:=⟨rfl,hM,fun b o e=>SW e,gj (Qk _ _),trivial,fun b hb=>absurd (show b ∈ ([]:List Addr) from hb) (by simp),hok,.of_eq hg⟩
  refine codeAny_mono ((F _ hKb (nsK hns)).run callerA [] Bc H ⟨[.ref a],[]⟩ [.ref a] [.ref a] _ _ hr e0 (hbind Bc (.ref a)) (.cons rfl .nil) (hsp H hO hS)) fun r s' h=>?_
  cases r with
  | error e=>exact (hCX H e s' h).elim
  | ok fl=>
   cases fl with
   | next=>exact False.elim h
   | brk=>exact False.elim h
   | cont=>exact False.elim h
   | ret u=>
    obtain ⟨v,H',os,bare,un,Zd,r',q⟩:=h;have q':v=.bl true:=q;subst q';obtain rfl:u=Value.bool true:=r';refine ⟨rfl,OldK.of_keep fun b o e=>?_,os,bare⟩;cases q:H b with
    | none=>exact un.keep b o e q (by intro z; exact absurd (show b ∈ ([]:List Addr) from z) (by simp)) (by simp)
    | some u=>
     rcases hO b with z | ⟨ob,xs,z⟩
     ·rw [q] at z; cases z
     ·have z2:=un.frzs b ob _ z;obtain ⟨e1,_⟩:=hok b _ z;obtain ⟨e2,_⟩:=Zd b _ z2;rw [e] at e1; cases e1;exact e2
 cases hk:K.lookup a with
 | some o=>
  have e:=KX a o hk;rw [ha] at e;cases e
  refine core (fun _=>none) (fun _=>.inl rfl) (.inr ⟨_,vs.toArray,_,hk,rfl,rfl,rfl,by rw [ZU,lenV]; exact hl,by simpa using rv⟩) (fun b u z=>by have z':(none:Option HO)=some u:=z; cases z') (fun b z=>absurd rfl z) fun z=>absurd rfl z
 | none=>
  refine core (fun b=>if b=a then some (.frz { cls:=.type "list",data:=.seq vs.toArray } (.lst (ns.map V.int))) else none) (fun b=>?_) (.inl (.inr ⟨{ cls:=.type "list",data:=.seq vs.toArray },if_pos rfl⟩)) (fun b u z=>?_) (fun b z=>?_) fun _=>hk
  ·by_cases hb:b=a
   ·exact .inr ⟨_,_,if_pos hb⟩
   ·exact .inl (if_neg hb)
  ·by_cases hb:b=a
   ·have z':=(if_pos hb).symm.trans z;cases z'
    subst hb;exact ⟨ha,by rw [ZA]; exact hl,vs,_,rv,ha⟩
   ·have z':=(if_neg hb).symm.trans z;cases z'
  ·by_cases hb:b=a
   ·exact hb
   ·exact absurd (if_neg hb) z
theorem walk_of {l:df} {n k:Nat} {q:Program} {loose:List Str} {XP:(Str->Option Value)->Heap->Prop} {YP:World->Heap->Prop} {d:DefRec} {K:Params->ZD} {CX:World->Sl} {sp:World->Sp} {x:Str}
  (hn:l.most=some n) (Zh:n<=sizeLine) (hdf:d.params.defaults=[]) (hr:Ex k callerA)
  (hY:∀ (w:World) (h:Heap),YP w h->(K w.params).In h)
  (F:∀ (w:World) (mg:Str->Option Value) (fa:Addr) (h:Heap),(K w.params).In h->h.Ns mainGlobals mg->mg d.name=some (.ref fa) ->
   ∃ fd:FuncData,(∀ (s:Shared) (u:Value),BindsTo s fd ⟨[u],[]⟩ [(x,u)]) /\
    ∀ base:Heap,(K w.params).In base->base.Ns mainGlobals mg->A8 l.prog w (K w.params) mg base (CX w) k fa fd [x] (sp w))
  (hsp:∀ (w:World) (H:Hp) (a:Addr) (ns:List Int),ns.length<=n->TK H->AZ (K w.params) H a (ns.map V.int)->sp w [.ref a] H (fun v _=>v=.bl true) fun _ _ _=>False)
  (hCX:∀ (w:World) (H:Hp) (s:Shared) (e:Value) (s':Shared),CX w [] H s (fun _ _ _=>False) e s'->False) :
  fh q loose XP YP l.row.toRowW d [] (fun f vs=>PySem.call f vs):=by
 refine Att.attach_call hn hdf fun w s₀ Bc mg mb fa o pm cd doc a vs ns G Y ho hd hcd hmg hobj hints hlen hg=>?_
 have KX:=hY w _ Y;obtain ⟨fd,hb,hF⟩:=F w mg fa _ KX G.T.g hmg;exact RH KX G.T.g G.T.b G.T.builtins G.T.nolimit hg hobj hints (aj hlen Zh) hr hF hb (fun H hO hS=>hsp w H a ns hlen hO hS) fun H e s'=>hCX w H Bc e s'
def Eu (s:Stmt):Arguments:=match s with
 | .FunctionDef _ a _ _ _ _ _ _ _ _=>a
 | _=>{ posonlyargs:=[],args:=[],vararg:=none,kwonlyargs:=[],kw_defaults:=[],kwarg:=none,defaults:=[] }
def Dg (s:Stmt):List Stmt:=match s with
 | .FunctionDef _ _ b _ _ _ _ _ _ _=>b
 | _=>[]
def An (s:Stmt):Scope:=match s with
 | .FunctionDef _ _ _ _ _ _ sc _ _ _=>sc
 | _=>{ kind:=.function,names:=[],isGenerator:=false,isCoroutine:=false }
abbrev Bt:Sl:=fun _ _ _ _ _ _=>False
abbrev E0:XK:=fun _ _ _=>False
theorem Ax {X:Cx}:NX Bt X E0:=fun _ _ _ _ _ _ _ h=>h.elim
structure Dm (K:ZD) (x qual:Str) (st:Stmt) (f:Addr) (fd:FuncData):Prop where
 ex:∃ (oc:Value) (od:Option Addr) (kV doc pm:Value) (an:Option Addr) (cdv ct:Value) (osl:Array (Option Value)),
  fd=bp x qual (Eu st) (Dg st) (An st) .none kV doc pm an cdv ct/\K.lookup f=some ⟨oc,od,.func fd,osl⟩/\cG K cdv qual=true
 kp:cE K (.ref f)=true
section
variable {P:Program} {w:World} {K:ZD} {mg:Str->Option Value} {base:Heap}
theorem Dm.ok {x qual:Str} {st:Stmt} {f:Addr} {fd:FuncData} {N ps:List Str} {k:Nat} {sp:Sp} (F:Dm K x qual st f fd) (S:A2 N ps (An st)) (len:∀ vs H Q E,sp vs H Q E->vs.length=ps.length)
  (hbody:∀ (cdv:Value) (A:Around) (outer:List Env) (s:Shared) (H:Hp) (vs:List V) (Q:VK) (E:XK),Ex k (A.deeper (envOfC qual (An st) s.heap.objs.size f cdv))->sp vs H Q E ->
   ∃ t,OP (NS Bt P w K mg base N qual (An st) f cdv A outer s H E).nox (Dg st) t/\t { nx:=fun _ H'=>Q .non H',rt:=Q } (start N vs) H):A8 P w K mg base Bt (k + 1) f fd ps sp:=by
 obtain ⟨oc,od,kV,doc,pm,an,cdv,ct,osl,rfl,lk,hcd⟩:=F.ex;refine fn_of lk hcd S len fun A outer s H vs Q E hr hsp=>?_
 obtain ⟨t,h,q⟩:=hbody cdv A outer s H vs Q E hr hsp;exact ⟨t,h.nox,q⟩
theorem Dm.binds {x qual:Str} {st:Stmt} {f:Addr} {fd:FuncData} {ps:List Str} (F:Dm K x qual st f fd)
  (h:∀ (kV doc pm:Value) (an:Option Addr) (cdv ct:Value) (us:List Value),us.length=ps.length->bindArgs (bp x qual (Eu st) (Dg st) (An st) .none kV doc pm an cdv ct) ⟨us,[]⟩=pure (ps.zip us)):HM K fd ps []:=by
 obtain ⟨oc,od,kV,doc,pm,an,cdv,ct,osl,rfl,lk,hcd⟩:=F.ex;exact .all (h kV doc pm an cdv ct)
theorem V4 {x qual:Str} {st:Stmt} {f:Addr} {oc:Value} {od an:Option Addr} {osl:Array (Option Value)} {kV doc pm cdv ct:Value} (l:K.lookup f=some ⟨oc,od,.func (bp x qual (Eu st) (Dg st) (An st) .none kV doc pm an cdv ct),osl⟩)
  (c:cG K cdv qual=true) (k:cE K (.ref f)=true):Dm K x qual st f (bp x qual (Eu st) (Dg st) (An st) .none kV doc pm an cdv ct):=⟨⟨oc,od,kV,doc,pm,an,cdv,ct,osl,rfl,l,c⟩,k⟩
end
theorem CN {A:Around} {k:Nat} (hr:Ex k A):A.units + 1 < cLine:=Nat.lt_of_le_of_lt (Nat.add_le_add_left (by decide:1<=64) _) hr.units
section
variable {X:Cx}
theorem pv (i:Nat) {x:Str} {pos:Pos} (hN:X.N[i]? = some x:=by rfl) (hv:Vis X.env.scope x:=by first | exact Or.inl rfl | exact Or.inr (Or.inl rfl) | exact Or.inr (Or.inr rfl)) (hd:(x == ("__debug__":Str))=false:=by decide)
  (hcd:(x == ("__classdict__":Str))=false:=by decide):PE X (.Name x pos) (S6 i):=Vf hN hv hd hcd
end
theorem BZ {A B:Prop} (h:B):if false=true then A else B:=by
 rw [if_neg ZV];exact h
theorem De {A B:Prop} (h:A):if true=true then A else B:=by
 rw [if_pos rfl];exact h
theorem CL {c A B:Prop} [Decidable c] (h1:c->A) (h2:¬ c->B):if c then A else B:=by
 by_cases h:c
 ·rw [if_pos h];exact h1 h
 ·rw [if_neg h];exact h2 h
def Aq (H H':Hp):Prop:=∀ b o,H b=some o->H' b=some o
theorem Aq.refl (H:Hp):Aq H H:=fun _ _ h=>h
theorem Aq.trans {H H1 H2:Hp} (a:Aq H H1) (b:Aq H1 H2):Aq H H2:=fun c o h=>b c o (a c o h)
theorem Aq.free {H H':Hp} (e:Aq H H') {l:Addr} (h:H' l=dX):H l=dX:=by
 cases q:H l with
 | none=>rfl
 | some o=>
  rw [e l o q] at h;cases h
section
variable {κ:Type} [DecidableEq κ]
theorem QO {kvs:List (κ × V)} {k:κ} (h:B9 kvs k=none):¬ k ∈ kvs.map (·.1):=by
 intro m;obtain ⟨p,hp,e⟩:=ZO.mp m;have q:(kvs.any fun kv=>decide (kv.1=k))=true:=bQ.mpr ⟨p,hp,decide_eq_true e⟩;rw [Co,h] at q;exact absurd q (by simp)
end
abbrev A5 (X:Cx) (scope:Scope) (cl:List (Str × Addr)) (N:List Str) (s2:Shared) (H:Hp) (C:Addr) (fp:List Addr):Cx where
 prog:=X.prog
 w:=X.w
 K:=X.K
 mg:=X.mg
 base:=X.base
 A:=X.A
 N:=N
 s₀:=s2
 H₀:=H
 env:=compEnvC scope cl C X.env
 outer:=X.stack
 stack:=X.stack
 ex:=fp
 fn:=fun _=>false
 calm:=X.calm
 pn:=[]
 xe:=fun _ _=>False
structure AD (X:Cx) (scope:Scope) (cl:List (Str × Addr)):Prop where
 clos:closureFor scope X.env=pure cl
 cell:∀ y ∈ scope.names,y.2 ≠ .cell
 kind:scope.kind=.function
 names:∀ y ∈ scope.names,y.2=.local->scope.names.lookup y.1=some .local
 sub:∀ x c,cl.lookup x=some c->X.env.cells.lookup x=some c
 has:∀ x,((relabel scope X.env).names.lookup x=some .cell\/(relabel scope X.env).names.lookup x=some .free)->∃ c,cl.lookup x=some c
def Ba (X:Cx) (cl:List (Str × Addr)) (scope:Scope) (N:List Str) (σ Aw:St):Prop:=
 Aw.length=N.length/\∀ (i:Nat) (x:Str) (v:V),N[i]? = some x->Aw[i]? = some (some v) ->
  (∃ j:Nat,X.N[j]? = some x/\σ[j]? = some (some v))/\(X.env.kindOf x=some .cell\/X.env.kindOf x=some .free) /\
   ((relabel scope X.env).names.lookup x=some .cell\/(relabel scope X.env).names.lookup x=some .free)
theorem Ba.none (X:Cx) (cl:List (Str × Addr)) (scope:Scope) (N:List Str) (σ:St):Ba X cl scope N σ (N.map fun _=>dX):=by
 refine ⟨by simp,fun i x v h1 h2=>?_⟩;rw [ZL,h1] at h2;cases h2
section
variable {X:Cx} {pins:List (Addr × Obj)} {σ Aw:St} {H H':Hp} {s2 s':Shared} {scope:Scope} {cl:List (Str × Addr)} {N:List Str} {fp:List Addr} {C D:Addr} {B3 h':Heap} {t':Nat}
theorem J2 (I:Au X pins σ H s2) (hf:∀ b ∈ fp,EU X pins H b) (hfo:∀ b ∈ fp,∃ o,s2.heap.get? b=some o) (co:AD X scope cl) (hσ:Ba X cl scope N σ Aw)
  (k:∀ b o,s2.heap.get? b=some o->B3.get? b=some o) (hD:s2.heap.objs.size<=D) (hC:s2.heap.objs.size<=C) (hDC:C ≠ D)
  (new:B3.get? D=some { cls:=.type "list",data:=.seq ([]:List Value).toArray 0 }\/∃ n,B3.get? D=some { cls:=.type "list",data:=.seq ([]:List Value).toArray n }) {m:Str->Option Value} (hn:B3.Ns C m) :
  Au (A5 X scope cl N s2 H C fp) [] Aw (upd H D (.lst [])) { s2 with heap:=B3,toks:=t' }:=by
 have fD:H D=none:=I.hok.fresh hD;have fC:H C=none:=I.hok.fresh hC;have newO:AV X.prog X.w (upd H D (.lst [])) B3 D (.lst []):=by
  exists ao _,[]
  rcases new with e | ⟨n,e⟩
  ·exact ⟨0,.nil,e⟩
  ·exact ⟨n,.nil,e⟩
 have lts:∀ b ∈ fp,b < s2.heap.objs.size:=fun b hb=>let ⟨_,e⟩:=hfo b hb; ZK e
 have cells_lt:∀ x c,cl.lookup x=some c->c < s2.heap.objs.size:=fun x c e=>by
  obtain ⟨v,q⟩:=I.cell x c (co.sub x c e);exact q.lt
 have ok:Cx.Ok (A5 X scope cl N s2 H C fp):=by
  refine ⟨I.ok.mod,?_,I.ok.glob,I.ok.blt,hC,?_,?_,?_,I.ok.hd,I.ok.frames,.inl rfl,?_,I.bs,aj I.ok.bsz I.sz,?_,?_,I.stack,I.stkFree⟩
  ·exact co.kind
  ·exact fun x y c e1 e2=>I.ok.inj x y c (co.sub x c e1) (co.sub y c e2)
  ·exact fun x h=>co.has x h
  ·exact fun x c h _=>by cases h
  ·intro b hb;refine ⟨fun e=>?_,fun x c e=>(hf b hb).2.2.2.2.1 x c (co.sub x c e)⟩;have z:=lts b hb;exact absurd (ZX z hC) (by rw [show b=C from e]; exact aO _)
  ·intro b o e hb;have Ip:b ∈ fp:=hb;rcases (hf b Ip).2.2.2.1 with z | z
   ·exact I.ok.noex b o e z
   ·exact absurd (ZX (ZK e) (aj I.ok.bsz z)) (aO _)
  ·intro b hb hz;have Ip:b ∈ fp:=hb;obtain ⟨_,f1,f2,_⟩:=hf b Ip;rcases ZF.mp (I.stkSub b hz) with e | e
   ·exact f1 e
   ·exact f2 e
 refine ⟨ok,rfl,I.bare,Un.laid k hD fD,?_,?_,?_,?_,?_,I.hok.laid k hD newO,hσ.1⟩
 ·refine ⟨m,hn,fun i x v e1 e2 _=>?_⟩;obtain ⟨⟨j,j1,j2⟩,kk,kr⟩:=hσ.2 i x v e1 e2;obtain ⟨mo,_,hl⟩:=I.loc;obtain ⟨u,r,l⟩:=hl j x v j1 j2 (by
   rcases kk with z | z
   ·exact .inr (.inl z)
   ·exact .inr (.inr z))
  refine ⟨u,r,.inr ⟨kr,?_⟩⟩;obtain ⟨c,hc⟩:=co.has x kr;rcases l with ⟨z,_⟩ | ⟨_,c',K0,hcell⟩
  ·rcases kk with q | q
   ·rw [z] at q; cases q
   ·rw [z] at q; cases q
  ·have e3:=co.sub x c hc;rw [K0] at e3;have e4:c'=c:=ZZ.inj e3;subst e4;obtain ⟨o,ho,hd⟩:=hcell;exact ⟨c',hc,o,k _ o ho,hd⟩
 ·intro x c e;obtain ⟨v,o,ho,hd⟩:=I.cell x c (co.sub x c e);exact ⟨v,o,k _ o ho,hd⟩
 ·show upd H D (.lst []) C=none
  rw [Ae hDC];exact fC
 ·intro x c e;rw [Ae (ZQ (ZX (cells_lt x c e) hD))];exact I.freeC x c (co.sub x c e)
 ·intro p hp;cases hp
theorem Gh {pl:List (Addr × Obj)} (I:Au X pins σ H s2) (hf:∀ b ∈ fp,EU X pins H b) (hC:s2.heap.objs.size<=C) (I2:Au (A5 X scope cl N s2 H C fp) pl Aw H' s')
  (hs:Heap.SameBut C s'.heap h'):Au X pins σ H' { s' with heap:=h' }:=by
 have nC:∀ b o,s2.heap.get? b=some o->b ≠ C:=fun b o e=>ZQ (ZX (ZK e) hC)
 have u:=I2.base;refine I.call' (s':={ s' with heap:=h' }) (ch:=fp) I2.os ⟨?_,?_,u.free,?_,u.tups,u.frzs,u.tbls⟩ ?_ I2.bare fun b hb=>?_
 ·exact fun b o e n h1 h2=>(hs.2 b (nC b o e)).trans (u.keep b o e n h1 h2)
 ·intro b o e n h1 h2;obtain ⟨sl,q⟩:=u.slot b o e n h1 h2;exact ⟨sl,(hs.2 b (nC b o e)).trans q⟩
 ·intro b o e h2;obtain ⟨o',q⟩:=u.there b o e h2;exact ⟨o',(hs.2 b (nC b o e)).trans q⟩
 ·intro b ob e;have hfree:H' C=none:=I2.free;refine (I2.hok b ob e).stay (fun c w' hc q=>(hs.2 c ?_).trans q) (fun _ q=>q) fun _ _ q=>q
  rintro rfl;rcases hc with rfl | hc
  ·rw [hfree] at e; cases e
  ·rw [hfree] at hc; cases hc
 ·obtain ⟨_,f1,_,f3,f4,f5⟩:=hf b hb;exact ⟨f3,f1,f4,f5⟩
end
section
variable {prog:Program} {w:World} {A:Around} {R:Result->Shared->Prop} {s:Shared}
theorem CH {elt target iter:Expr} {ifs:List Expr} {scope:Scope} {pos:Pos} {it acc:Value} {env:Env} (I:Nat->Shared->Prop)
  (turn:∀ n s,I n s->wpAny (model prog w) A (pyNext it) (fun r Bc=>match r with
   | none=>R (.ok .next) Bc
   | some v=>wpAny (model prog w) A (letOwnedTupleGo target it v) (fun _ LM=>wpAny (model prog w) A (assign target env v) (fun _ E7=>
     wpAny (model prog w) A (forIn ifs true fun c r=>if r=true then do let ok <- isTrue c env (eval c env); pure (ForInStep.yield ok) else pure (ForInStep.yield r)) (fun ok CB=>
      if ok=true then wpAny (model prog w) A (eval elt env) (fun x QS=>
       wpAny (model prog w) A (call (.builtin "list.append") [acc,x]) (fun _ QR=>∃ m,m < n/\I m QR) (notedBy (model prog w) A env fun e s'=>R (.error e) s') QS) (notedBy (model prog w) A env fun e s'=>R (.error e) s') CB
      else ∃ m,m < n/\I m CB) (notedBy (model prog w) A env fun e s'=>R (.error e) s') E7) (notedBy (model prog w) A env fun e s'=>R (.error e) s') LM) (notedBy (model prog w) A env fun e s'=>R (.error e) s') Bc) (notedBy (model prog w) A env fun e s'=>R (.error e) s') s)
  (n:Nat) (h:I n s) :
  codeAny (model prog w) A (.compLoop (.ListComp elt [⟨target,iter,ifs,0⟩] scope pos) 0 it acc env) R s:=by
 refine codeAny_loop rfl I (fun n s hI=>?_) n h;show wpAny _ A ((compTurn (.ListComp elt [⟨target,iter,ifs,0⟩] scope pos) 0 it acc env).onRaise (fun x=>do noteFrame x env; theTreesLotGoes x)) _ _ s
 refine wpAny_noted ?_;rw [compTurn_list];refine wpAny_bind (wpAny_standAt (wpAny_bind (wpAny_mono (turn n s hI) (fun r Bc B3=>?_) fun _ _ h'=>h')));cases r with
 | none=>exact wpAny_pure B3
 | some v=>
  refine wpAny_bind (wpAny_mono B3 (fun _ LM RN=>?_) fun _ _ h'=>h');refine wpAny_bind (wpAny_mono RN (fun _ E7 GV=>wpAny_bind (wpAny_mono GV (fun ok CB HU=>?_) fun _ _ h'=>h')) fun _ _ h'=>h');cases ok with
  | false=>exact wpAny_pure ⟨rfl,HU⟩
  | true=>
   exact wpAny_bind (wpAny_bind (wpAny_mono HU (fun x QS NH=>wpAny_bind (wpAny_mono NH (fun _ QR Df=>wpAny_pure (wpAny_pure ⟨rfl,Df⟩)) fun _ _ h'=>h')) fun _ _ h'=>h'))
end
def Wg (X:Cx) (ifs:List Expr) (t:TT):Prop:=
 ∀ (pins:List (Addr × Obj)) (s:Shared) (σ:St) (H:Hp) (Q:Bool->Hp->Prop),Au X pins σ H s->t σ H Q ->
  wpAny (model X.prog X.w) X.A (forIn ifs true fun c r=>if r=true then do let ok <- isTrue c X.env (eval c X.env); pure (ForInStep.yield ok) else pure (ForInStep.yield r)) (TP X pins σ Q) X.xe s
def JI:TT:=fun _ H Q=>Q true H
theorem AQ {X:Cx}:Wg X [] JI:=fun _ _ _ H _ I h=>wpAny_tests_nil ⟨H,I,h⟩
theorem Ig {X:Cx} {c:Expr} {t:TT} (h:PT X c t):Wg X [c] t:=fun pins s σ H Q I q=>wpAny_tests_one (h pins s σ H Q I q)
def QQ (wi:TI) (g:TG) (tt:TT) (te:TE) (σ0:St->St):TE:=fun σ H Q=>wi σ H fun J H1=>∀ D,H1 D=none->∃ W:Nat->Nat->St->Hp->Prop,(∃ m,W 0 m (σ0 σ) (upd H1 D (.lst []))) /\
 ∀ i m Aw H',W i m Aw H'->(J.stop i H'/\Q (.ref D) H')\/(J.go i H'/\∀ x H2,J.yld i H' x H2->g x Aw H2 fun AB H3=>tt AB H3 fun b H4=>
  if b=true then te AB H4 (fun v H5=>∃ acc,H5 D=some (.lst acc)/\acc.length < sizeLine/\∃ m',m' < m/\W (i + 1) m' AB (upd H5 D (.lst (acc ++ [v])))) else ∃ m',m' < m/\W (i + 1) m' AB H4)
theorem AS {X:Cx} {tg iter elt:Expr} {ifs:List Expr} {scope:Scope} {cl:List (Str × Addr)} {N:List Str} {pos:Pos} {wi:TI} {g:TG} {tt:TT} {te:TE} {σ0:St->St} (hc:X.calm=true) (co:AD X scope cl)
  (hσ:∀ σ,σ.length=X.N.length->Ba X cl scope N σ (σ0 σ)) (hi:PI X tg iter wi)
  (hb:∀ s2 H C fp,PG (A5 X scope cl N s2 H C fp) tg g/\Wg (A5 X scope cl N s2 H C fp) ifs tt/\PE (A5 X scope cl N s2 H C fp) elt te)
  (hs:∀ x,foldedSetIterable iter X.env x=pure x:=by intro _; rfl):PE X (.ListComp elt [⟨tg,iter,ifs,0⟩] scope pos) (QQ wi g tt te σ0):=by
 intro pins s σ H Q I h;rw [eval_ListComp];refine wpAny_comprehension_free (use:=none) rfl hs co.clos co.kind co.names (wpAny_mono (hi pins s σ H _ I h) (fun xv s1 h1=>wpAny_mono h1 (fun itv s2 h2=>?_) fun _ _ e=>e) fun _ _ e=>e);obtain ⟨it,fp,tn,J,H2,rfl,I2,T,Gx,f2,hW⟩:=h2;refine wpAny_newObj_type (wpAny_newFunctionEnv co.cell (by intro y hy; cases hy) (fun B3 Cf BH=>?_) co.kind);dsimp only at Cf BH ⊢;generalize NM:s2.heap.push { cls:=.type "list",dict:=none,data:=.seq ([]:List Value).toArray } = HH at Cf BH ⊢;have C5:HH.objs.size=s2.heap.objs.size + 1:=by rw [<-NM,aA]
 have old:∀ b o,s2.heap.get? b=some o->B3.get? b=some o:=fun b o e=>
  BH.extBut b o (ZQ (by rw [C5]; exact au (ZK e))) (ZC _ (NM ▸ ZC _ e))
 have newD:∃ n,B3.get? s2.heap.objs.size=some { cls:=.type "list",data:=.seq ([]:List Value).toArray n }:=
  ⟨_,BH.extBut _ _ (ZQ (by rw [C5]; exact aH _)) (ZC _ (NM ▸ ZM _ rfl))⟩
 obtain ⟨W,⟨m0,w0⟩,turn⟩:=hW s2.heap.objs.size I2.fresh;have hfo:∀ b ∈ fp,∃ o,s2.heap.get? b=some o:=fun b hb=>let ⟨o,e,_⟩:=T.obj _ _ Gx b hb; ⟨o,e⟩
 have I3:Au (A5 X scope cl N s2 H2 HH.objs.size fp) [] (σ0 σ) (upd H2 s2.heap.objs.size (.lst [])) { s2 with heap:=B3,toks:=s2.toks + ([]:List (Str × Value)).length }:=
  J2 I2 f2 hfo co (hσ σ I.len) old (ZJ _) (by rw [C5]; exact ar _) (aW (by rw [C5]; exact aH _)) (.inr newD) Cf
 have fC:s2.heap.objs.size<=HH.objs.size:=by rw [C5]; exact ar _
 obtain ⟨hg,ht,he⟩:=hb s2 H2 HH.objs.size fp;have loop:∀ CB:Shared,CB = { s2 with heap:=B3,toks:=s2.toks + ([]:List (Str × Value)).length } ->
   codeAny (model X.prog X.w) X.A (.compLoop (.ListComp elt [⟨tg,iter,ifs,0⟩] scope pos) 0 (.ref it) (.ref s2.heap.objs.size) (compEnvC scope cl HH.objs.size X.env))
    (compPost (model X.prog X.w) X.A X.xe none (EP X pins σ Q) (.ref s2.heap.objs.size) HH.objs.size) CB:=by
  rintro CB rfl;have stat:∀ {H':Hp} ,(∀ b ∈ fp,H' b=none)->∀ b ∈ fp,EU (A5 X scope cl N s2 H2 HH.objs.size fp) [] H' b:=fun hn b hb=>by
   refine ⟨hn b hb,?_,?_,.inl hb,?_,fun p hp=>by cases hp⟩
   ·obtain ⟨o,e⟩:=hfo b hb;exact ZQ (show b < HH.objs.size by rw [C5]; exact au (ZK e))
   ·intro hz;obtain ⟨_,q1,q2,_⟩:=f2 b hb;rcases ZF.mp (I2.stkSub b hz) with e | e
    ·exact q1 e
    ·exact q2 e
   ·exact fun x c e=>(f2 b hb).2.2.2.2.1 x c (co.sub x c e)
  refine CH (fun n s'=>∃ i Aw H',Au (A5 X scope cl N s2 H2 HH.objs.size fp) [] Aw H' s'/\tn i s'.heap/\(∀ b ∈ fp,H' b=none)/\W i n Aw H') ?_ m0
   ⟨0,σ0 σ,_,I3,T.keep _ _ _ Gx fun b hb o e=>old b o e,fun b hb=>?_,w0⟩
  ·rintro n s4 ⟨i,KL,H4,I4,JB,RV,w4⟩;rcases turn i n KL H4 w4 with ⟨stop,qn⟩ | ⟨go,step⟩
   ·refine wpAny_mono (T.done (A5 X scope cl N s2 H2 HH.objs.size fp) rfl rfl rfl hc i [] s4 KL H4 (fun _ _=>False) I4 (stat RV) JB stop) (fun r s5 ⟨hr,I5⟩=>?_) fun _ _ z=>z.elim
    subst hr;obtain ⟨m5,Vz,_⟩:=id I5.loc;exact ⟨m5,Vz,fun h' Q4=>⟨.ref _,H4,Gh I2 f2 fC I5 Q4,rfl,qn⟩⟩
   ·refine wpAny_mono (T.item (A5 X scope cl N s2 H2 HH.objs.size fp) rfl rfl rfl hc i [] s4 KL H4 (fun _ _=>False) I4 (stat RV) JB go) (fun r s5 ⟨u,hr,h5⟩=>?_) fun _ _ z=>z.elim
    subst hr;refine wpAny_mono h5 (fun _ s6 ⟨x,H6,I6,r6,y6,Nj,V5⟩=>?_) fun _ _ z=>z.elim
    have VJ:=I6.pinned (stat V5) (T.obj _ _ Nj);refine wpAny_mono (hg _ s6 KL H6 x u _ VJ r6 (step x H6 y6)) (fun _ s7 ⟨FF,H7,I7,q7⟩=>?_) fun _ _ z=>z.elim
    refine wpAny_mono (ht _ s7 FF H7 _ I7 q7) (fun ok s8 ⟨H8,I8,q8⟩=>?_) fun _ _ z=>z.elim
    have again:∀ {s9:Shared} {KJ:St} {H9:Hp} ,Au (A5 X scope cl N s2 H2 HH.objs.size fp) ([] ++ EJ fp s6.heap) KJ H9 s9->(∃ m',m' < n/\W (i + 1) m' KJ H9)->∃ m,m < n/\∃ i Aw H',Au (A5 X scope cl N s2 H2 HH.objs.size fp) [] Aw H' s9/\tn i s9.heap/\(∀ b ∈ fp,H' b=none)/\W i m Aw H':=fun {s9 KJ H9} I9 n9=>by
     obtain ⟨m',hm,w9⟩:=n9;refine ⟨m',hm,i + 1,KJ,H9,I9.unpinned,T.keep _ _ _ Nj fun b hb o e=>(I9.pin (b,o) (ZT _ (ZT _ (B4 hb e)))).1,fun b hb=>?_,w9⟩;obtain ⟨o,e,d⟩:=T.obj _ _ Nj b hb;exact (I9.pin (b,o) (ZT _ (ZT _ (B4 hb e)))).2.1
    cases ok with
    | false=>
     rw [if_neg ZV] at q8 ⊢;exact again I8 q8
    | true=>
     rw [if_pos rfl] at q8 ⊢;refine wpAny_mono (he _ s8 FF H8 _ I8 q8) (fun y s9 ⟨v,H9,I9,r9,acc,hacc,hsz,q9⟩=>?_) fun _ _ z=>z.elim
     refine wpAny_mono (C4 (X:=A5 X scope cl N s2 H2 HH.objs.size fp) _ s9 FF H9 (.ref s2.heap.objs.size) [v] (.ref s2.heap.objs.size) [y] (fun _ Oa=>∃ m',m' < n/\W (i + 1) m' FF Oa) I9 rfl (.cons r9 .nil) ⟨_,acc,v,rfl,rfl,hacc,hsz,q9⟩) (fun _ MU ⟨_,Oa,VL,_,Va⟩=>?_) fun _ _ z=>z.elim
     exact again VL Va
  ·have z:=(f2 b hb).1;obtain ⟨o,e⟩:=hfo b hb;rw [Ae (ZQ (ZK e))];exact z
 exact codeAny_compStart_list (loop _ rfl) (T.self _ 0 _ _ _ (T.keep _ _ _ Gx fun b hb o e=>old b o e) (loop _ rfl))
def Its (x:Str):It:=⟨fun i _=>i < x.cps.size,fun i H v H'=>H'=H/\∃ c,x.cps[i]? = some c/\v=.str ⟨#[c]⟩,fun i _=>x.cps.size<=i⟩
theorem Pc {P:Program} {w:World} {K:ZD} {tg:Expr} (it:Addr) (x:Str) (t:Tok):MN P w K tg (Its x) [it] it (fun i h=>h.IsStrIter it "str_ascii_iterator" x t i) where
 mem:=by simp
 obj:=fun i h st b hb=>by
  have e:b=it:=by simpa using hb
  subst e;obtain ⟨o,e,c,d⟩:=st;exact ⟨o,e,fun v z=>by rw [d] at z; cases z⟩
 keep:=fun i h h' st k=>let ⟨o,e,r⟩:=st; ⟨o,k it (by simp) o e,r⟩
 item:=by
  intro X hP hw hK hc i pins s σ H E I hf st hg;subst hP hw hK;obtain ⟨f0,f1,f2,f3,f4,f5⟩:=hf it (by simp);have Tn:i < x.cps.size:=hg;refine wpAny_pyNext_ascii_item st (c:=x.cps[i]) (by simp [Tn]) fun h' AG sb=>?_
  have I1:Au X pins σ H { s with heap:=h',toks:=s.toks + 1 }:=I.turned (fun b o hb e=>(sb.2 b hb).trans e) f0 f1 f3 f4 f5;obtain ⟨o,e,c,d⟩:=id AG;exact ⟨_,rfl,K2 (s:={ s with heap:=h',toks:=s.toks + 1 }) e c d (by decide) ⟨.str ⟨#[x.cps[i]]⟩,H,I1,⟨_,rfl⟩,⟨rfl,_,by simp [Tn],rfl⟩,AG,fun b hb=>(hf b hb).1⟩⟩
 done:=by
  intro X hP hw hK hc i pins s σ H E I hf st hg;subst hP hw hK;obtain ⟨f0,f1,f2,f3,f4,f5⟩:=hf it (by simp);have Tn:x.cps.size<=i:=hg;exact wpAny_pyNext_ascii_end (I.ok.hd hc) st (by simp [Tn]) fun h' eb=>⟨rfl,I.turned (t':=s.toks) (fun b o hb e=>eb b o hb e) f0 f1 f3 f4 f5⟩
 self:=fun _ _ _ _ _ st h=>wpAny_pyIter_striter_ascii st h
theorem OZ {P:Program} {w:World} {K:ZD} {tg:Expr} (it:Addr) (x:Str) (t:Tok):MN P w K tg (Its x) [it] it (fun i h=>h.IsStrIter it "str_iterator" x t i) where
 mem:=by simp
 obj:=fun i h st b hb=>by
  have e:b=it:=by simpa using hb
  subst e;obtain ⟨o,e,c,d⟩:=st;exact ⟨o,e,fun v z=>by rw [d] at z; cases z⟩
 keep:=fun i h h' st k=>let ⟨o,e,r⟩:=st; ⟨o,k it (by simp) o e,r⟩
 item:=by
  intro X hP hw hK hc i pins s σ H E I hf st hg;subst hP hw hK;obtain ⟨f0,f1,f2,f3,f4,f5⟩:=hf it (by simp);have Tn:i < x.cps.size:=hg;refine wpAny_pyNext_wide_item st (c:=x.cps[i]) (by simp [Tn]) fun h' AG sb=>?_
  have I1:Au X pins σ H { s with heap:=h',toks:=s.toks + 1 }:=I.turned (fun b o hb e=>(sb.2 b hb).trans e) f0 f1 f3 f4 f5;obtain ⟨o,e,c,d⟩:=id AG;exact ⟨_,rfl,K2 (s:={ s with heap:=h',toks:=s.toks + 1 }) e c d (by decide) ⟨.str ⟨#[x.cps[i]]⟩,H,I1,⟨_,rfl⟩,⟨rfl,_,by simp [Tn],rfl⟩,AG,fun b hb=>(hf b hb).1⟩⟩
 done:=by
  intro X hP hw hK hc i pins s σ H E I hf st hg;subst hP hw hK;obtain ⟨f0,f1,f2,f3,f4,f5⟩:=hf it (by simp);have Tn:x.cps.size<=i:=hg;exact wpAny_pyNext_wide_end (I.ok.hd hc) st (by simp [Tn]) fun h' eb=>⟨rfl,I.turned (t':=s.toks) (fun b o hb e=>eb b o hb e) f0 f1 f3 f4 f5⟩
 self:=fun _ _ _ _ _ st h=>wpAny_pyIter_striter_wide st h
def iStr (tl:TE):TI:=fun σ H R=>tl σ H fun x H1=>∃ z,x=.str z/\R (Its z) H1
theorem Vb {X:Cx} {tg l:Expr} {tl:TE} (hl:PE X l tl):PI X tg l (iStr tl):=by
 intro pins s σ H R I h;refine B0 (hl pins s σ H _ I h) fun v s1 ⟨x,H1,I1,r1,q1⟩=>?_
 obtain ⟨z,rfl,q⟩:=q1;obtain ⟨t,rfl⟩:=r1;have fin:∀ b ∈ [s1.heap.objs.size],EU X pins H1 b:=fun b hb=>by
  have e:b=s1.heap.objs.size:=by simpa using hb
  subst e;exact I1.fpOk (ZJ _) (I1.hok.fresh (ZJ _))
 cases ha:z.cps.all (· < 128)
 ·exact wpAny_pyIter_wide ha ⟨s1.heap.objs.size,[s1.heap.objs.size],_,_,H1,rfl,I1.kept (t':=s1.toks) fun b o e=>ZC _ e,OZ _ z t,⟨_,ZM _ rfl,rfl,rfl⟩,fin,q⟩
 ·exact wpAny_pyIter_ascii ha ⟨s1.heap.objs.size,[s1.heap.objs.size],_,_,H1,rfl,I1.kept (t':=s1.toks) fun b o e=>ZC _ e,Pc _ z t,⟨_,ZM _ rfl,rfl,rfl⟩,fin,q⟩
theorem BO {X:Cx} (hc:X.calm=true):Bn X (.builtin "all") (fun xs H Q=>∃ (p:Addr) (bs:List Bool),xs=[.ref p]/\AZ X.K H p (bs.map V.bl)/\Q (.bl (bs.all id)) H):=by
 intro pins s σ H xs us Q I r h;obtain ⟨p,bs,rfl,hq,q⟩:=h;obtain ⟨u,rfl,ru⟩:=Cj r;cases ru
 obtain ⟨Av,rv,pl,hz⟩:=I.list hq;have hlen:Av.length=bs.length:=by rw [<-rv.length,ZA]
 refine call_all_walk (wpAny_pyIter_list pl.isList ?_);have hne:p ≠ s.heap.objs.size:=by
  obtain ⟨o,n,e,_⟩:=pl;exact ZQ (ZK e)
 exists s.heap.objs.size,_,_,_,_,_,fun i=>bs.getD i true,rfl,Walks.list (A:=X.A.in1) (I.ok.hd hc) s.heap.objs.size p hne Av.toArray,⟨⟨_,ZM _ rfl,rfl,rfl⟩,?_⟩,?_
 ·exact pl.isList.at fun o e=>ZC _ e
 ·intro i v s1 Q1 E1 hv hQ;have hv':Av[i]? = some v:=by simpa using hv
  have hb:∃ b,bs[i]? = some b:=by
   cases e:bs[i]? with
   | some b=>exact ⟨b,rfl⟩
   | none=>
    have:=List.getElem?_eq_none_iff.mp e;have:=(ZN.mp hv').1;lia
  obtain ⟨b,hb⟩:=hb;obtain ⟨u,hu,ru⟩:=rv.get (i:=i) (x:=V.bl b) (by rw [ZL,hb]; rfl);rw [hv'] at hu;cases hu
  cases ru
  have e:bs.getD i true=b:=by rw [ZP,hb]; rfl
  have hQ':Q1 (bs.getD i true) s1:=hQ;rw [e] at hQ';exact wpAny_truthy_bool hQ'
 ·intro h' tk hk;have e:(aP Av.toArray.size).all (fun i=>bs.getD i true)=bs.all id:=by
   rw [ZU,hlen];apply aZ.mpr;simp only [aG,bO,id];constructor
   ·intro h b hb;obtain ⟨i,hi,e⟩:=ab hb;have:=h i hi;rw [ZP,Z9 hi] at this;simpa [e] using this
   ·intro h i hi;rw [ZP,Z9 hi];exact h _ (aN hi)
  rw [e];refine ⟨.bl _,H,?_,rfl,q⟩;have I1:Au X pins σ H { s with heap:=s.heap.push { cls:=.type "list_iterator",data:=.fields #[.ref p,.int 0 0] } }:=I.kept (t':=s.toks) fun b o e=>ZC _ e
  have F:=I.fpOk (ZJ _) (I.hok.fresh (ZJ _));obtain ⟨f0,f1,f2,f3,f4,f5⟩:=F;exact I1.turned (it:=s.heap.objs.size) (fun b o hb e=>hk b o (by simpa using hb) e) f0 f1 f3 f4 f5
theorem BF {X:Cx}:Bn X (.builtin "isinstance") (fun xs H Q=>∃ x c t b,xs=[x,.ty c]/\D5 X.K H x t/\bL X.K t (.type c)=some b/\Q (.bl b) H):=by
 intro pins s σ H xs us Q I r h;obtain ⟨x,c,t,b,rfl,ty,e,q⟩:=h;obtain ⟨u,v,rfl,rx,rc⟩:=Oh r;cases rc
 exact Qi I rx ty e fun tk=>⟨.bl b,H,I.tok tk,rfl,q⟩
theorem Kt {X:Cx}:EA X (compareOp .LtE) (fun x y H Q=>∃ i j,x=.str i/\y=.str j/\Q (.bl (!(decide (j.cps.toList < i.cps.toList)))) H):=by
 intro pins s σ H x y v u Q I rx ry h;obtain ⟨i,j,rfl,rfl,q⟩:=h;obtain ⟨t,rfl⟩:=rx;obtain ⟨t',rfl⟩:=ry;exact PySem.P.le_str ⟨.bl _,H,I,rfl,q⟩
def tSlS (te:TE) (tl th:TO):TE:=fun σ H Q=>te σ H fun x H1=>tl σ H1 fun l H2=>th σ H2 fun u H3=>∃ z,x=.str z/\z.length<=sizeLine/\Q (.str (Txt.slice z l u)) H3
theorem FY {X:Cx} {e:Expr} {te:TE} {lo hi:Option Expr} {tl th:TO} {pos p2:Pos} (he:PE X e te) (hl:PO X lo tl) (hu:PO X hi th):PE X (.Subscript e (.Slice lo hi none p2) pos) (tSlS te tl th):=by
 intro pins s σ H Q I h;refine Subscript_ (B0 (he pins s σ H _ I h) fun v s1 ⟨x,H1,I1,r1,q1⟩=>?_);refine wpAny_Slice (B0 (hl pins s1 σ H1 _ I1 q1) fun vl s2 ⟨l,H2,I2,pl,q2⟩=>B0 (hu pins s2 σ H2 _ I2 q2) fun vu s3 ⟨u,H3,I3,pu,q3⟩=>?_);rw [evalPart_none];refine wpAny_pure ?_;obtain ⟨z,rfl,hz,q⟩:=q3;obtain ⟨t,rfl⟩:=r1;show wpAny (model X.prog X.w) X.A (subscriptTail e (.Slice lo hi none p2) (.str z t) (.ref s3.heap.objs.size)) (EP X pins σ Q) X.xe { s3 with heap:=s3.heap.push { cls:=.type "slice",data:=.fields #[vl,vu,.none] } }
 have kk:KeptH (fun h=>∀ b o,s3.heap.get? b=some o->h.get? b=some o):=fun h ob hh b o e=>ZC _ (hh b o e)
 have fin:ItemOn (model X.prog X.w) X.A X.xe (.str z t) (.ref s3.heap.objs.size) (EP X pins σ Q) { s3 with heap:=s3.heap.push { cls:=.type "slice",data:=.fields #[vl,vu,.none] } }:=by
  cases pl with
  | none=>
   cases pu with
   | none=>exact SBH.sliceItem_nn kk (fun _ _ e=>e) (fun h' t' k kp=>⟨.str _,H3,I3.kept kp,⟨_,rfl⟩,q⟩) hz
   | int j uj=>exact SBH.sliceItem_ns kk (fun _ _ e=>e) (fun h' t' k kp=>⟨.str _,H3,I3.kept kp,⟨_,rfl⟩,q⟩) hz
  | int i ui=>
   cases pu with
   | none=>exact SBH.sliceItem_sn kk (fun _ _ e=>e) (fun h' t' k kp=>⟨.str _,H3,I3.kept kp,⟨_,rfl⟩,q⟩) hz
   | int j uj=>exact SBH.sliceItem_ss kk (fun _ _ e=>e) (fun h' t' k kp=>⟨.str _,H3,I3.kept kp,⟨_,rfl⟩,q⟩) hz
 obtain ⟨T,id,hT,ht,hg⟩:=fin;exact tail_any (ops:=[.ref s3.heap.objs.size,.str z t]) ht hT hg (by with_unfolding_all rfl)
theorem PN {X:Cx} (hu:X.A.units < cLine):EA X (compareOp .Eq) (fun x y H Q=>∃ a b xs,x=.ref a/\y=.ref b/\AZ X.K H a xs/\AZ X.K H b []/\Q (.bl xs.isEmpty) H):=by
 intro pins s σ H x y v u Q I rx ry h;obtain ⟨a,b,xs,rfl,rfl,ha,hb,q⟩:=h;cases rx
 cases ry
 obtain ⟨Av,r,p,hz⟩:=I.list ha;obtain ⟨JR,r2,p2,YS⟩:=I.list hb;cases r2
 cases xs with
 | nil=>
  cases r
  refine PySem.SeqAt.eq_listAt (e:=fun _=>true) p.isList p2.isList rfl hu (fun j h1 h2=>absurd h1 (b0 _)) ?_;exact ⟨.bl true,H,I,rfl,q⟩
 | cons x xs=>
  cases r with
  | cons r1 r2=>
   refine PySem.SeqAt.eq_list_lengthsAt p.isList p2.isList (by simp) hu ?_;exact ⟨.bl false,H,I,rfl,q⟩
theorem Er {α:Type}:∀ {l:List (Str × α)} {x:Str} {k:α},l.lookup x=some k->(x,k) ∈ l
 | [],_,_,h=>by cases h
 | (n,v) :: r,x,k,h=>by
  rw [List.lookup_cons] at h;by_cases e:x=n
  ·subst e;simp at h;subst h;exact ae
  ·have:(x == n)=false:=beq_eq_false_iff_ne.mpr e;rw [this] at h;exact ZW _ (Er h)
theorem AD.plain {X:Cx} {scope:Scope} (hfree:∀ x ∈ scope.names,x.2 ≠ .free) (hcell:∀ y ∈ scope.names,y.2 ≠ .cell) (hkind:scope.kind=.function)
  (hnames:∀ y ∈ scope.names,y.2=.local->scope.names.lookup y.1=some .local):AD X scope []:=by
 refine ⟨closureFor_none hfree,hcell,hkind,hnames,fun x c h=>(by cases h),fun x h=>?_⟩;have key:∀ k,(relabel scope X.env).names.lookup x=some k->∃ y ∈ scope.names,y.2=k:=by
  intro k e;have m:=Er e;obtain ⟨⟨n,k'⟩,hm,e'⟩:=ZO.mp m;have hf:=hfree _ hm;have:(k' == NameKind.free)=false:=by
   cases k' <;> first | rfl | exact absurd rfl hf
  dsimp only at e';rw [this] at e';simp at e';exact ⟨_,hm,e'.2⟩
 rcases h with h | h
 ·obtain ⟨y,hy,e⟩:=key _ h;exact absurd e (hcell y hy)
 ·obtain ⟨y,hy,e⟩:=key _ h;exact absurd e (hfree y hy)
def GJ (c:Nat):Bool:=decide (97<=c) && decide (c<=122)
theorem lt1 (a b:Nat):decide (([a]:List Nat) < [b])=decide (a < b):=by
 apply decide_eq_decide.mpr;rw [List.cons_lt_cons_iff];constructor
 ·rintro (h | ⟨_,h⟩)
  ·exact h
  ·exact absurd h (by simp)
 ·exact fun h=>.inl h
theorem leA (c:Nat):(!(decide ((⟨#[c]⟩:Str).cps.toList < (Str.ofString "a").cps.toList)))=decide (97<=c):=by
 show (!(decide (([c]:List Nat) < [97])))=_
 rw [lt1,<-decide_not];exact decide_eq_decide.mpr (by lia)
theorem leZ (c:Nat):(!(decide ((Str.ofString "z").cps.toList < (⟨#[c]⟩:Str).cps.toList)))=decide (c<=122):=by
 show (!(decide (([122]:List Nat) < [c])))=_
 rw [lt1,<-decide_not];exact decide_eq_decide.mpr (by lia)
def Bm (t:Str):Bool:=decide (1<=t.length) && decide (t.length<=6) && t.cps.toList.all GJ
def He (K:ZD) (H:Hp) (x:V):Prop:=∃ ty,D5 K H x ty/\bL K ty (.type "str")=some false
def KS (K:ZD):Sp:=fun vs H Q _=>∃ x,vs=[x]/\((∃ t,x=.str t/\t.length<=1000/\∀ H',Aq H H'->Q (.bl (Bm t)) H')\/(He K H x/\Q (.bl false) H))
theorem Ad {H:Hp} {p:Addr} {o:HO} (h:H p=none):Aq H (upd H p o):=fun b u e=>by
 rw [Ae (Ah e h)];exact e
theorem JH {α β:Type} (f:α->β) (l:List α) (i:Nat) (c:α) (h:l[i]? = some c):(l.take (i + 1)).map f=(l.take i).map f ++ [f c]:=by
 rw [dE,h,ZG];rfl
mutual
inductive FC (H:Hp):V->PyData->Prop
 | non:FC H .non .none
 | bl (b:Bool):FC H (.bl b) (.bool b)
 | int (i:Int):FC H (.int i) (.int i)
 | str (x:Str):FC H (.str x) (.str x)
 | tup {a:Addr} {vs:List V} {ds:List PyData}:H a=some (.tup vs)->AE H vs ds->FC H (.ref a) (.tuple ds)
 | lst {a:Addr} {vs:List V} {ds:List PyData}:H a=some (.lst vs)->AE H vs ds->FC H (.ref a) (.list ds)
inductive AE (H:Hp):List V->List PyData->Prop
 | nil:AE H [] []
 | cons {v:V} {vs:List V} {d:PyData} {ds:List PyData}:FC H v d->AE H vs ds->AE H (v :: vs) (d :: ds)
end
mutual
theorem FC.mono {H H':Hp} (s:∀ a o,H a=some o->(∃ vs,o=.tup vs\/o=.lst vs)->H' a=some o):∀ {v:V} {d:PyData},FC H v d->FC H' v d
 | _,_,.non=>.non
 | _,_,.bl b=>.bl b
 | _,_,.int i=>.int i
 | _,_,.str x=>.str x
 | _,_,.tup e r=>.tup (s _ _ e ⟨_,.inl rfl⟩) (AE.mono s r)
 | _,_,.lst e r=>.lst (s _ _ e ⟨_,.inr rfl⟩) (AE.mono s r)
theorem AE.mono {H H':Hp} (s:∀ a o,H a=some o->(∃ vs,o=.tup vs\/o=.lst vs)->H' a=some o):∀ {vs:List V} {ds:List PyData},AE H vs ds->AE H' vs ds
 | _,_,.nil=>.nil
 | _,_,.cons x r=>.cons (FC.mono s x) (AE.mono s r)
end
theorem FC.same {H H':Hp} {v:V} {d:PyData} (h:FC H v d) (s:Aq H H'):FC H' v d:=h.mono fun a o e _=>s a o e
mutual
theorem FC.reads {X:Cx} {pins:List (Addr × Obj)} {σ:St} {H:Hp} {s:Shared} (I:Au X pins σ H s):∀ {v:V} {d:PyData} {u:Value},FC H v d->AM v u->∃ as,Reads s.heap u d as
 | _,_,_,.non,r=>by cases r; exact ⟨_,.none⟩
 | _,_,_,.bl b,r=>by cases r; exact ⟨_,.bool b⟩
 | _,_,_,.int i,r=>by obtain ⟨t,rfl⟩:=r; exact ⟨_,.int i t⟩
 | _,_,_,.str x,r=>by obtain ⟨t,rfl⟩:=r; exact ⟨_,.str x t⟩
 | _,_,_,.tup (a:=a) e m,r=>by
  cases r
  obtain ⟨_,Av,rv,⟨o,ho,hc,n,hd⟩,_⟩:=(show AV X.prog X.w H s.heap a (.tup _) from I.hok a _ e)
  obtain ⟨as,q⟩:=AE.reads I m rv;exact ⟨_,.tuple ho hc hd (by simpa using q)⟩
 | _,_,_,.lst (a:=a) e m,r=>by
  cases r
  obtain ⟨_,Av,n,rv,ho⟩:=(show AV X.prog X.w H s.heap a (.lst _) from I.hok a _ e)
  obtain ⟨as,q⟩:=AE.reads I m rv;exact ⟨_,.list ho rfl rfl (by simpa using q)⟩
theorem AE.reads {X:Cx} {pins:List (Addr × Obj)} {σ:St} {H:Hp} {s:Shared} (I:Au X pins σ H s):∀ {vs:List V} {ds:List PyData} {us:List Value},AE H vs ds->AF vs us->∃ as,ReadsAll s.heap us ds as
 | _,_,_,.nil,r=>by cases r; exact ⟨_,.nil⟩
 | _,_,_,.cons x m,r=>by
  cases r with
  | cons r1 r2=>
   obtain ⟨as,q1⟩:=FC.reads I x r1;obtain ⟨bs,q2⟩:=AE.reads I m r2;exact ⟨_,.cons q1 q2⟩
end
theorem PQ {X:Cx} (hu:X.A.units + 64 < cLine):EA X (compareOp .Eq) (fun x y H Q=>∃ d e,FC H x d/\FC H y e/\d.canLay0=true/\e.canLay0=true/\d.depth<=60/\Q (.bl (PyData.eqv d e)) H):=by
 intro pins s σ H x y v u Q I rx ry h;obtain ⟨d,e,h1,h2,c1,c2,hd,q⟩:=h;obtain ⟨as,r1⟩:=h1.reads I rx;obtain ⟨bs,r2⟩:=h2.reads I ry;exact SeqAt.compareEq_reads r1 r2 c1 c2 (by have:=fU d.depth e.depth; lia) ⟨.bl _,H,I,rfl,q⟩
theorem PM {X:Cx} (hu:X.A.units + 64 < cLine):EA X (compareOp .NotEq) (fun x y H Q=>∃ d e,FC H x d/\FC H y e/\d.canLay0=true/\e.canLay0=true/\d.depth<=60/\Q (.bl (!PyData.eqv d e)) H):=by
 intro pins s σ H x y v u Q I rx ry h;obtain ⟨d,e,h1,h2,c1,c2,hd,q⟩:=h;obtain ⟨as,r1⟩:=h1.reads I rx;obtain ⟨bs,r2⟩:=h2.reads I ry;exact SeqAt.compareNe_reads r1 r2 c1 c2 (by have:=fU d.depth e.depth; lia) ⟨.bl _,H,I,rfl,q⟩
theorem Jm (z:Str) (xs:List Str):inV (.str z) (xs.map V.str)=decide (z ∈ xs):=by
 unfold inV;induction xs with
 | nil=>simp
 | cons x xs ih=>
  rw [ZS,bT,ih];have e:Tw (.str x) (.str z)=decide (z=x):=by
   show (x == z)=_
   by_cases h:z=x
   ·subst h; simp
   ·have h':¬ x=z:=fun q=>h q.symm
    rw [decide_eq_false h];exact beq_eq_false_iff_ne.mpr h'
  rw [e];by_cases h:z=x
  ·simp [h]
  ·by_cases h2:z ∈ xs <;> simp [h,h2]
theorem GY (xs:List Str):(xs.map V.str).all Gg=true:=by
 rw [bu];exact aG.mpr fun _ _=>rfl
def A9 (p:Addr) (H H':Hp):Prop:=∀ b o,b ≠ p->H b=some o->H' b=some o
theorem A9.trans {p:Addr} {H H1 H2:Hp} (a:A9 p H H1) (b:A9 p H1 H2):A9 p H H2:=fun c o n e=>b c o n (a c o n e)
theorem A9.of_same {p:Addr} {H H':Hp} (s:Aq H H'):A9 p H H':=fun b o _ e=>s b o e
theorem A9.upd {p:Addr} {H:Hp} {o:HO}:A9 p H (L2.upd H p o):=fun b u n e=>by rw [Ae n]; exact e
def TH (K:ZD) (H:Hp) (a:Addr) (xs:List V):Prop:=(∃ ob,H a=some (.frz ob (.lst xs)))\/∃ o Av n,List.lookup a K=some o/\o.cls=Value.type "list"/\o.dict=none/\o.data=Data.seq Av n/\Av.size<=sizeLine/\AF xs Av.toList
theorem TH.sq {K:ZD} {H:Hp} {a:Addr} {xs:List V} (h:TH K H a xs):AZ K H a xs:=by
 rcases h with ⟨ob,h⟩ | h
 ·exact .inl (.inr ⟨ob,h⟩)
 ·exact .inr h
theorem TH.same {K:ZD} {H H':Hp} {a:Addr} {xs:List V} (h:TH K H a xs) (s:Aq H H'):TH K H' a xs:=by
 rcases h with ⟨ob,h⟩ | h
 ·exact .inl ⟨ob,s _ _ h⟩
 ·exact .inr h
theorem Sf {ns:List Int} {i:Int} (h0:0<=i) (h1:i < ns.length):∃ c,Gv (ns.map V.int) i=some (V.int c):=by
 obtain ⟨n,rfl⟩:∃ n:Nat,i=(n:Int):=⟨i.toNat,by lia⟩
 have hn:n < ns.length:=by lia
 exact ⟨ns[n],CA (by rw [ZL,Z9 hn]; rfl)⟩
theorem L7 {α:Type} {l:List α} {i:Int} {c:α} (h:Gv l i=some c):c ∈ l:=by
 obtain ⟨j,_,h2,_⟩:=Iu h;exact ZE h2
abbrev Gd:Str:="abcdefghijklmnopqrstuvwxyz"
theorem HD:∀ c ∈ Gd.cps.toList,GJ c=true:=by decide +kernel
def TL (z:Str):Prop:=∀ c ∈ z.cps.toList,GJ c=true
theorem R9 {z:Str} (h1:1<=z.length) (h2:z.length<=6) (h:TL z):Bm z=true:=by
 unfold Bm;rw [decide_eq_true h1,decide_eq_true h2,aG.mpr h];rfl
theorem RG {z:Str} (h:Bm z=true):1<=z.length/\z.length<=6/\TL z:=by
 unfold Bm at h;rw [aB,aB,decide_eq_true_eq,decide_eq_true_eq,aG] at h;exact ⟨h.1.1,h.1.2,h.2⟩
theorem Ca {α:Type} [BEq α] [LawfulBEq α]:∀ {l xs:List α},l.Nodup->(∀ x ∈ l,x ∈ xs)->l.length<=xs.length
 | [],_,_,_=>ao _
 | a :: l,xs,hn,hs=>by
  have ha:=hs a ae;have Yc:=aM.mp hn;have:=Ca (l:=l) (xs:=xs.erase a) Yc.2 fun x hx=>(eF (show x ≠ a from fun e=>Yc.1 (by rw [<-e]; exact hx))).mpr (hs x (ZW _ hx))
  rw [List.length_erase_of_mem ha] at this;have:0 < xs.length:=List.length_pos_of_mem ha;rw [az];lia
theorem C7 (H:Hp):∀ xs:List Str,AE H (xs.map V.str) (xs.map .str)
 | []=>.nil
 | x :: xs=>.cons (.str x) (C7 H xs)
theorem EM:∀ {xs:List Str},(∀ x ∈ xs,Bm x=true)->PyData.canLayAll0 (xs.map .str)=true
 | [],_=>rfl
 | x :: xs,h=>by
  show (PyData.strOk x && PyData.canLayAll0 (xs.map .str))=true
  rw [EM fun y hy=>h y (ZW _ hy),fZ];obtain ⟨_,_,lo⟩:=RG (h x ae);unfold PyData.strOk;rw [Array.all_eq_true_iff_forall_mem];intro c hc;have:=lo c (by simpa using hc);unfold GJ at this;rw [aB,decide_eq_true_eq,decide_eq_true_eq] at this;rw [decide_eq_true_eq];lia
theorem F7:∀ xs:List Str,PyData.depthAll (xs.map .str)=0
 | []=>rfl
 | x :: xs=>by
  show max 0 (PyData.depthAll (xs.map .str))=0
  rw [F7 xs];rfl
theorem AD.caught {X:Cx} {scope:Scope} {cl:List (Str × Addr)} (clos:closureFor scope X.env=pure cl) (hcell:∀ y ∈ scope.names,y.2 ≠ .cell) (hkind:scope.kind=.function)
  (hnames:∀ y ∈ scope.names,y.2=.local->scope.names.lookup y.1=some .local) (hcl:∀ y ∈ cl,X.env.cells.lookup y.1=some y.2)
  (hfr:∀ y ∈ scope.names,y.2=.free->∃ c,cl.lookup y.1=some c):AD X scope cl:=by
 refine ⟨clos,hcell,hkind,hnames,fun x c h=>hcl _ (Er h),fun x h=>?_⟩;have key:∀ k,(relabel scope X.env).names.lookup x=some k->k=.cell\/k=.free->∃ c,cl.lookup x=some c:=by
  intro k e hk;have m:=Er e;obtain ⟨⟨n,k'⟩,hm,e'⟩:=ZO.mp m;dsimp only at e';by_cases hf:k'=.free
  ·subst hf;have en:n=x:=by
    by_cases hc:(NameKind.free == NameKind.free && X.env.scope.kind == .function && X.env.kindOf n == some .cell)=true
    ·rw [if_pos hc] at e';injection e'
    ·rw [if_neg hc] at e';injection e'
   subst en;exact hfr _ hm rfl
  ·have:(k' == NameKind.free)=false:=by
    cases k' <;> first | rfl | exact absurd rfl hf
   rw [this] at e';simp at e';rcases hk with hk | hk
   ·exact absurd (e'.2.trans hk) (hcell _ hm)
   ·exact absurd (e'.2.trans hk) hf
 rcases h with h | h
 ·exact key _ h (.inl rfl)
 ·exact key _ h (.inr rfl)
theorem Ba.of {X:Cx} {cl:List (Str × Addr)} {scope:Scope} {N:List Str} {σ:St} (js:List (Option Nat)) (hl:js.length=N.length)
  (h:∀ (i j:Nat) (x:Str),N[i]? = some x->js[i]? = some (some j)->X.N[j]? = some x/\(X.env.kindOf x=some .cell\/X.env.kindOf x=some .free)/\((relabel scope X.env).names.lookup x=some .cell\/(relabel scope X.env).names.lookup x=some .free)) :
  Ba X cl scope N σ (js.map fun j=>j.bind fun j=>(σ[j]?).join):=by
 refine ⟨by rw [ZA,hl],fun i x v h1 h2=>?_⟩;rw [ZL] at h2;cases e:js[i]? with
 | none=>rw [e] at h2; cases h2
 | some o=>
  rw [e] at h2;cases o with
  | none=>cases h2
  | some j=>
   obtain ⟨a,b,c⟩:=h i j x h1 e;refine ⟨⟨j,a,?_⟩,b,c⟩;have h3:(σ[j]?).join=some v:=ZZ.inj h2;cases e2:σ[j]? with
   | none=>rw [e2] at h3; cases h3
   | some o=>
    rw [e2] at h3;have:o=some v:=h3;rw [this]
theorem Qz {X:Cx}:Bn X (.type "range") (fun xs H Q=>∃ j:Int,xs=[.int j]/\∀ q,H q=none->Q (.ref q) (upd H q (.rng 0 j))):=by
 intro pins s σ H xs us Q I r h;obtain ⟨j,rfl,q⟩:=h;obtain ⟨u,rfl,⟨t,rfl⟩⟩:=Cj r;refine call_range_1 ⟨.ref s.heap.objs.size,_,I.laid (o:=.rng 0 j) (fun b o e=>ZC _ e) (ZJ _) ⟨_,_,_,ZM _ rfl⟩,rfl,q _ I.fresh⟩
theorem Nf {f:Nat->V}:∀ {n:Nat} {acc:Array Value},acc.size=n->(∀ (i:Nat) (v:Value),acc[i]? = some v->AM (f i) v)->AF ((aP n).map f) acc.toList:=by
 intro n acc hs h;have go:∀ (l:List Value) (k:Nat),(∀ (i:Nat) (v:Value),l[i]? = some v->AM (f (k + i)) v)->AF ((aP l.length).map fun i=>f (k + i)) l:=by
  intro l;induction l with
  | nil=>intro k _; exact .nil
  | cons v l ih=>
   intro k hh;rw [az,List.range_succ_eq_map,ZS,aL];refine .cons (by simpa using hh 0 v rfl) ?_;have:=ih (k + 1) fun i u e=>by
    have:=hh (i + 1) u (by simpa using e);rw [show k + 1 + i=k + (i + 1) by lia];exact this
   have e2:(fun i=>f (k + 1 + i))=((fun i=>f (k + i)) ∘ g8):=by
    funext i;show f (k + 1 + i)=f (k + (i + 1))
    rw [show k + 1 + i=k + (i + 1) by lia]
   rw [e2] at this;exact this
 have:=go acc.toList 0 fun i v e=>by
  rw [bZ];exact h i v (by simpa using e)
 simp only [bZ,ag,hs] at this;exact this
theorem JV {X:Cx} (hc:X.calm=true):Bn X (.type "list") (fun xs H Q=>∃ (r:Addr) (n:Nat),xs=[.ref r]/\H r=some (.rng 0 n)/\n<=100000/\∀ l,H l=none->Q (.ref l) (upd H l (.lst ((aP n).map fun (i:Nat)=>V.int (i:Int))))):=by
 intro pins s σ H xs us Q I r h;obtain ⟨r0,n,rfl,hr,hn,q⟩:=h;obtain ⟨u,rfl,rx⟩:=Cj r;cases rx
 obtain ⟨t,u,v,e⟩:=(show AV X.prog X.w H s.heap r0 (.rng 0 n) from I.hok r0 _ hr)
 refine call_list_range (n:=n) (I.ok.hd hc) (show IsRange s.heap r0 0 n 1 t u v from e) (small_one (by decide) (by decide) (by lia) (by lia)) (by rw [rangeSize_one]; split <;> lia) (by lia) fun h' tk ES c' kp hS hacc=>?_
 refine ⟨.ref s.heap.objs.size,_,I.laid (o:=.lst ((aP n).map fun (i:Nat)=>V.int (i:Int))) kp (ZJ _) ⟨?_,ES.toList,c',?_,by simpa using hS⟩,rfl,q _ I.fresh⟩
 ·rw [ZA,bo];have:100000 < sizeLine:=by decide
  lia
 ·refine Nf hacc.1 fun i v e=>?_
  obtain ⟨t,rfl⟩:=hacc.2 i v e;exact ⟨t,by simp⟩
abbrev AJ:=Str × Str × Int
def Ee (u:AJ):PyData:=.tuple [.str u.1,.str u.2.1,.int u.2.2]
def JA (u v:AJ):Prop:=(u.1=v.1/\u.2.1=v.2.1)\/(u.1=v.2.1/\u.2.1=v.1)
structure LA (xs:List Str) (k:Nat) (ws:List AJ):Prop where
 of:∀ u ∈ ws,∃ i j:Nat,i < j/\j < k/\xs[i]? = some u.1/\xs[j]? = some u.2.1/\1<=u.2.2
 sep:ws.Pairwise fun u v=>¬ JA u v
 to:∀ j,0 < j->j < k->∃ u ∈ ws,∃ i:Nat,i < j/\xs[i]? = some u.1/\xs[j]? = some u.2.1
 len:2 * ws.length<=k * (k - 1)
structure VG (xs:List Str) (ws:List AJ):Prop where
 of:∀ u ∈ ws,u.1 ∈ xs/\u.2.1 ∈ xs/\u.1 ≠ u.2.1/\1<=u.2.2
 sep:ws.Pairwise fun u v=>¬ JA u v
 to:∀ j,0 < j->j < xs.length->∃ u ∈ ws,∃ i:Nat,i < j/\xs[i]? = some u.1/\xs[j]? = some u.2.1
 len:2 * ws.length<=xs.length * (xs.length - 1) + 10
theorem IZ {xs:List Str} (h:xs.Nodup) {i j:Nat} {x:Str} (a:xs[i]? = some x) (b:xs[j]? = some x):i=j:=IY h a b
theorem LA.nil (xs:List Str):LA xs 1 []:=⟨(fun _ h=>nomatch h),List.Pairwise.nil,(fun j h1 h2=>by lia),(by decide)⟩
theorem LA.more {xs:List Str} {k:Nat} {ws us:List AJ} (hn:xs.Nodup) (h:LA xs k ws) (hk:k < xs.length) (js:List Nat) (hj:js.Nodup) (BD:∀ j ∈ js,j < k) (h0:js ≠ [])
  (hl:us.length=js.length) (hu:∀ (q:Nat) (u:AJ) (j:Nat),us[q]? = some u->js[q]? = some j->xs[j]? = some u.1/\xs[k]? = some u.2.1/\1<=u.2.2):LA xs (k + 1) (ws ++ us):=by
 have at_:∀ u ∈ us,∃ (q j:Nat),us[q]? = some u/\js[q]? = some j/\j < k/\xs[j]? = some u.1/\xs[k]? = some u.2.1/\1<=u.2.2:=by
  intro u hm;obtain ⟨q,hq,e⟩:=ab hm;have e1:us[q]? = some u:=by rw [Z9 hq,e]
  have e2:js[q]? = some js[q]:=Z9 (by lia);obtain ⟨a,b,c⟩:=hu q u _ e1 e2;exact ⟨q,_,e1,e2,BD _ (aN _),a,b,c⟩
 exists ?_,?_,?_
 ·intro u hm;rcases af.mp hm with hm | hm
  ·obtain ⟨i,j,a,b,c⟩:=h.of u hm;exact ⟨i,j,a,by lia,c⟩
  ·obtain ⟨q,j,_,_,a,b,c,d⟩:=at_ u hm;exact ⟨j,k,a,by lia,b,c,d⟩
 ·rw [eG];exists h.sep,?_
  ·rw [bC];intro q r hq hr hqr al;have a1:=hu q us[q] js[q] (Z9 hq) (Z9 (by lia));have a2:=hu r us[r] js[r] (Z9 hr) (Z9 (by lia));have l1:=BD js[q] (aN _);have l2:=BD js[r] (aN _);rcases al with ⟨e1,_⟩ | ⟨e1,_⟩
   ·have a3:=a1.1;rw [e1] at a3;have ej:=IZ hn a3 a2.1;exact absurd ((fg hj).mp ej) (by lia)
   ·have a3:=a1.1;rw [e1] at a3;have ej:=IZ hn a3 a2.2.1;lia
  ·intro u XX v hv al;obtain ⟨i,j,hij,hjk,e1,e2,_⟩:=h.of u XX;obtain ⟨q,m,_,_,hm,e3,e4,_⟩:=at_ v hv;rcases al with ⟨_,z⟩ | ⟨z,_⟩
   ·rw [z] at e2;have:=IZ hn e2 e4;lia
   ·rw [z] at e1;have:=IZ hn e1 e4;lia
 ·intro j h1 h2;by_cases e:j=k
  ·subst e;cases us with
   | nil=>
    cases js with
    | nil=>exact absurd rfl h0
    | cons _ _=>cases hl
   | cons u us=>
    obtain ⟨q,m,_,_,hm,e3,e4,_⟩:=at_ u ae;exact ⟨u,ZT _ ae,m,hm,e3,e4⟩
  ·obtain ⟨u,hm,i,a,b⟩:=h.to j h1 (by lia);exact ⟨u,aT _ hm,i,a,b⟩
 ·have:=h.len;have hjl:js.length<=k:=by
   have:=Ca (l:=js) (xs:=aP k) hj fun j hm=>bO.mpr (BD j hm)
   rwa [bo] at this
  rw [ZH,hl];show 2 * (ws.length + js.length)<=(k + 1) * (k + 1 - 1)
  rw [fc];have e:(k + 1) * k=k * (k - 1) + 2 * k:=by
   cases k with
   | zero=>rfl
   | succ k=>
    rw [fc];simp only [Nat.succ_mul,Nat.mul_succ,Nat.add_mul,Nat.mul_add];lia
  lia
theorem LA.ways {xs:List Str} {ws:List AJ} (hn:xs.Nodup) (h:LA xs xs.length ws):VG xs ws:=by
 refine ⟨fun u hm=>?_,h.sep,h.to,by have:=h.len; lia⟩;obtain ⟨i,j,a,b,c,d,e⟩:=h.of u hm;refine ⟨ZE c,ZE d,fun z=>?_,e⟩;rw [z] at c;have:=IZ hn c d;lia
def Dy (xs:List Str) (ws:List AJ):Prop:=(∀ u ∈ ws,u.1 ∈ xs/\u.2.1 ∈ xs/\u.1 ≠ u.2.1/\1<=u.2.2)/\(ws.Pairwise fun u v=>¬ JA u v) /\
 ∀ j,0 < j->j < xs.length->∃ u ∈ ws,∃ i:Nat,i < j/\xs[i]? = some u.1/\xs[j]? = some u.2.1
theorem VG.c {xs:List Str} {ws:List AJ} (h:VG xs ws):Dy xs ws:=⟨h.of,h.sep,h.to⟩
theorem Dy.snoc {xs:List Str} {ws:List AJ} {x y:Str} {n:Int} (h:Dy xs ws) (hx:x ∈ xs) (hy:y ∈ xs) (ne:x ≠ y) (hn:1<=n) (no:∀ u ∈ ws,¬ ((x=u.1\/x=u.2.1)/\(y=u.1\/y=u.2.1))):Dy xs (ws ++ [(x,y,n)]):=by
 refine ⟨fun u hu=>?_,?_,fun j h1 h2=>?_⟩
 ·rcases af.mp hu with hu | hu
  ·exact h.1 u hu
  ·rw [aa.mp hu]; exact ⟨hx,hy,ne,hn⟩
 ·rw [eG];refine ⟨h.2.1,dQ _ _,fun u hu v hv al=>?_⟩;rw [aa.mp hv] at al;refine no u hu ?_;rcases al with ⟨e1,e2⟩ | ⟨e1,e2⟩
  ·exact ⟨.inl e1.symm,.inr e2.symm⟩
  ·exact ⟨.inr e2.symm,.inl e1.symm⟩
 ·obtain ⟨u,hu,r⟩:=h.2.2 j h1 h2;exact ⟨u,aT _ hu,r⟩
theorem Jz {H:Hp}:∀ {vs:List V} {ds:List PyData},AE H vs ds->vs.length=ds.length
 | _,_,.nil=>rfl
 | _,_,.cons _ r=>by rw [az,az,Jz r]
theorem EO {H:Hp}:∀ {vs:List V} {ws:List AJ} {i:Nat} {x:V},AE H vs (ws.map Ee)->vs[i]? = some x->∃ u t,ws[i]? = some u/\x=.ref t/\H t=some (.tup [.str u.1,.str u.2.1,.int u.2.2])
 | _,[],i,x,.nil,e=>by cases e
 | _,u :: ws,0,x,.cons (v:=v) h _,e=>by
  have e':v=x:=by simpa using e
  subst e';cases h with
  | tup ha hd=>
   exists u,_,rfl,rfl;cases hd with
   | cons h1 r1=>
    cases r1 with
    | cons h2 r2=>
     cases r2 with
     | cons h3 r3=>
      cases r3
      cases h1
      cases h2
      cases h3
      exact ha
 | _,u :: ws,i + 1,x,.cons _ r,e=>by
  obtain ⟨u',t,a,b⟩:=EO (i:=i) (x:=x) r (by simpa using e);exact ⟨u',t,by simpa using a,b⟩
theorem CG {H:Hp}:∀ {vs us:List V} {ds es:List PyData},AE H vs ds->AE H us es->AE H (vs ++ us) (ds ++ es)
 | _,_,_,_,.nil,h=>h
 | _,_,_,_,.cons a r,h=>.cons a (CG r h)
theorem Ge (K:ZD) {X:Cx} (h:X.K=K):Wi X (rIxL K):=by subst h; exact Bf
theorem A7 (K:ZD) {X:Cx} (h:X.K=K):Wi X (rIxT K):=by subst h; exact F6
theorem Nx (K:ZD) {X:Cx} (h:X.K=K):EA X (compareOp .In) (rIn K false):=by subst h; exact Kv
theorem AO (K:ZD) {X:Cx} (h:X.K=K) {es:List Expr} {k:Nat} {t:U4} {n:Nat} {pos:Pos} (hc:X.calm=true) (ht:PGs X es t)
  (hn:(assignEach es X.env).length=n:=by rfl) (hst:(assignEach es X.env).findIdx? (·.1)=none:=by rfl):PG X (.Tuple es k pos) (gTup K n t):=by subst h; exact Vd hc ht hn hst
end L2
namespace L2
open PySem PySem.W PyProof.Rows
section
variable {n:Nat} (hn:0 < n)
include hn
end
end L2
namespace L2
open PySem PySem.Spec PyProof.Rows PySem.W
theorem AV.there {P:Program} {w:World} {H:Hp} {h:Heap} {a:Addr} {o:HO} (x:AV P w H h a o):∃ ob,h.get? a=some ob:=by
 cases o with
 | lst xs=>obtain ⟨_,_,_,_,e⟩:=x; exact ⟨_,e⟩
 | tup xs=>obtain ⟨_,_,_,⟨ob,e,_⟩,_⟩:=x; exact ⟨ob,e⟩
 | dK kvs=>obtain ⟨_,_,_,_,o,_,_,e,_⟩:=x; exact ⟨o,e⟩
 | dT kvs=>obtain ⟨_,_,_,_,o,_,_,e,_⟩:=x; exact ⟨o,e⟩
 | set S n=>obtain ⟨o,_,_,_,e,_⟩:=x; exact ⟨o,e⟩
 | ins C dx fs=>obtain ⟨_,_,_,e,_⟩:=x; exact ⟨_,e⟩
 | own y=>exact x
 | xd fs=>obtain ⟨_,⟨_,_,_,e,_⟩,_⟩:=x; exact ⟨_,e⟩
 | rng lo hi=>obtain ⟨_,_,_,e⟩:=x; exact ⟨_,e⟩
 | frz ob u=>obtain ⟨e,_⟩:=x; exact ⟨_,e⟩
 | tbl ps=>exact ⟨_,(show h.get? a=some _ from x)⟩
 | met f y=>exact ⟨_,(show h.get? a=some _ from x)⟩
 | ext φ=>obtain ⟨_,⟨_,e⟩,_⟩:=x; exact ⟨_,e⟩
theorem Au.laidF {X:Cx} {pins:List (Addr × Obj)} {σ:St} {H:Hp} {s:Shared} {h2:Heap} {D:Addr} {o:HO} {m:Str->Option Value} (I:Au X pins σ H s)
  (hl:s.heap.Ns X.env.locals m/\∀ (i:Nat) (x:Str) (v:V),X.N[i]? = some x->σ[i]? = some (some v)->Vis X.env.scope x->∃ u,AM v u/\Look X.env s.heap m x u) (hn:h2.Ns X.env.locals m)
  (kp:∀ b ob,b ≠ X.env.locals->s.heap.get? b=some ob->h2.get? b=some ob) (hD:s.heap.get? D=none) (hDL:D ≠ X.env.locals) (new:AV X.prog X.w (upd H D o) h2 D o):Au X pins σ (upd H D o) { s with heap:=h2 }:=by
 have fD:H D=none:=by
  cases z:H D with
  | none=>rfl
  | some u=>
   obtain ⟨ob,e⟩:=AV.there (I.hok D u z);rw [hD] at e;cases e
 have neL:∀ b ob,X.s₀.heap.get? b=some ob->b ≠ X.env.locals:=fun b ob e=>ZQ (ZX (ZK e) I.ok.above)
 have neD:∀ b ob,s.heap.get? b=some ob->b ≠ D:=fun b ob e z=>by rw [z,hD] at e; cases e
 have cellK:∀ x c,X.env.cells.lookup x=some c->∀ v,s.heap.IsCell c v->h2.IsCell c v:=fun x c e v ⟨ob,ho,hd⟩=>⟨ob,kp c ob (I.cne x c e) ho,hd⟩
 refine ⟨I.ok,I.os,I.bare,⟨?_,?_,?_,?_,?_,?_,?_⟩,⟨m,hn,?_⟩,?_,?_,?_,?_,?_,I.len⟩
 ·exact fun b ob e n hb hx=>kp b ob (neL b ob e) (I.base.keep b ob e n hb hx)
 ·intro b ob e n hb hx;obtain ⟨sl,q⟩:=I.base.slot b ob e n hb hx;exact ⟨sl,kp b _ (neL b ob e) q⟩
 ·intro b ob e n hx;obtain ⟨X7,q⟩:=I.base.there b ob e hx;rw [Ae (neD b X7 q)];exact I.base.free b ob e n hx
 ·intro b ob e hx;obtain ⟨X7,q⟩:=I.base.there b ob e hx;exact ⟨X7,kp b X7 (neL b ob e) q⟩
 ·intro b xs e;have q:=I.base.tups b xs e;rw [Ae (Ah q fD)];exact q
 ·intro b ob u e;have q:=I.base.frzs b ob u e;rw [Ae (Ah q fD)];exact q
 ·intro b ps e;obtain ⟨more,q⟩:=I.base.tbls b ps e;exact ⟨more,by rw [Ae (Ah q fD)]; exact q⟩
 ·intro i x v e1 e2 e3;obtain ⟨u,r,l⟩:=hl.2 i x v e1 e2 e3;exists u,r;rcases l with l | ⟨k,c,e,z⟩
  ·exact .inl l
  ·exact .inr ⟨k,c,e,cellK x c e _ z⟩
 ·intro x c e;obtain ⟨v,z⟩:=I.cell x c e;exact ⟨v,cellK x c e v z⟩
 ·rw [Ae (Ne.symm hDL)];exact I.free
 ·intro x c e;obtain ⟨v,ob,ho,_⟩:=I.cell x c e;rw [Ae (neD c ob ho)];exact I.freeC x c e
 ·intro p hp;obtain ⟨e,n,ne,nf,d⟩:=I.pin p hp;exact ⟨kp _ _ ne e,by rw [Ae (neD _ _ e)]; exact n,ne,nf,d⟩
 ·intro b u e;by_cases hb:b=D
  ·subst hb;rw [Ab] at e;cases e
   exact new
  ·rw [Ae hb] at e;refine (I.hok b u e).stay (fun c v hc q=>kp c v ?_ q) (fun c q=>by rw [Ae (Ah q fD)]; exact q) fun c xs q=>by rw [Ae (Ah q fD)]; exact q
   rintro rfl;rcases hc with rfl | hc
   ·rw [I.free] at e; cases e
   ·rw [I.free] at hc; cases hc
end L2
namespace L2
open PySem PySem.Spec PyProof.Rows
section
variable {prog:Program} {w:World} {A:Around} {E:Value->Shared->Prop} {s:Shared}
end
def BX (a b:Str):Str:=if b.cps.toList < a.cps.toList then b else a
def BY (a b:Str):Str:=if a.cps.toList < b.cps.toList then b else a
theorem Oj {ss:List Str}:∀ {us:List Value},AF (ss.map V.str) us->StrsAre us ss:=by
 induction ss with
 | nil=>intro us r; cases r; exact .nil
 | cons x ss ih=>
  intro us r;cases r with
  | cons r1 r2=>
   obtain ⟨t,rfl⟩:=r1;exact .cons x t (ih r2)
theorem Ij:∀ {us:List Value} {ss:List Str},StrsAre us ss->AF (ss.map V.str) us
 | _,_,.nil=>.nil
 | _,_,.cons x t r=>.cons ⟨t,rfl⟩ (Ij r)
theorem Ec {X:Cx}:Bn X (.builtin "sorted") (fun xs H Q=>∃ (a:Addr) (ss:List Str),xs=[.ref a]/\AZ X.K H a (ss.map V.str)/\ss.length < 64 /\
  ∀ (l:Addr) (DS:List Str),H l=none->DS.Perm ss->sortedS DS=true->Q (.ref l) (upd H l (.lst (DS.map V.str)))):=by
 intro pins s σ H xs us Q I r h;obtain ⟨a,ss,rfl,ha,Xe,q⟩:=h;obtain ⟨u,rfl,ru⟩:=Cj r;cases ru
 obtain ⟨Av,rv,pl,hz⟩:=I.list ha;have hl:Av.length=ss.length:=by rw [<-rv.length,ZA]
 refine sorted_strs pl.isList (Oj rv) (by lia) fun out DS h1 h2 h3=>?_
 obtain ⟨e,he⟩:=sortedAll_at s.heap Av out;refine ⟨.ref (s.heap.objs.size + 1),_,I.laid (o:=.lst (DS.map V.str)) (t':=s.toks) (fun b o z=>sortedAll_old z) (ar _) ⟨?_,out.toList,e,Ij h1,by simpa using he⟩,rfl,q _ DS (I.hok.fresh (ar _)) h2 h3⟩;rw [ZA,h2.length_eq];have:100 < sizeLine:=by decide
 lia
end L2
namespace L2
open PySem PySem.Spec PySem.W PyProof.Rows
theorem Ks {vs:List Value} {p:Keyed} (h:p ∈ (pairsOf vs).toList):p=(p.2,p.2)/\p.2 ∈ vs:=by
 rw [pairsOf_toList] at h;obtain ⟨e,m⟩:=mem_zip_self h;refine ⟨?_,e ▸ m⟩;obtain ⟨x,y⟩:=p;exact Prod.ext e rfl
theorem PH (vs:List Value):(pairsOf vs).toList.map (·.2)=vs:=by
 rw [pairsOf_toList];induction vs with
 | nil=>rfl
 | cons v vs ih=>rw [bI,ZS,ih]
theorem R5 {vs:List Value} {xs:Array Keyed} (h:xs.Perm (pairsOf vs)):(xs.toList.map (·.2)).Perm vs:=by
 have q:=(dB.mp h).map (·.2);rw [PH] at q;exact q
section
variable {prog:Program} {w:World} {A:Around} {E:Value->Shared->Prop} {s:Shared} {lt:Keyed->Keyed->Bool}
def Cmpd (prog:Program) (w:World) (s:Shared) (lt:Keyed->Keyed->Bool) (vs:List Value):Prop:=
 2<=vs.length->∀ (A:Around) (h':Heap),(∀ b o,s.heap.get? b=some o->h'.get? b=some o) ->
  ∃ κ,(∀ (Q:SortKind->Shared->Prop) (E:Value->Shared->Prop),Q κ { s with heap:=h' }->wpAny (model prog w) A (keyKind' vs.toArray) Q E { s with heap:=h' })/\Q2 prog w A { s with heap:=h' } κ lt (pairsOf vs)
end
inductive OS where
 | i (n:Int)
 | s (x:Str)
 deriving DecidableEq
def U1:OS->OS->Bool
 | .i a,.i b=>decide (a < b)
 | .s a,.s b=>decide (a.cps.toList < b.cps.toList)
 | .i _,.s _=>true
 | .s _,.i _=>false
def Kw:List OS->List OS->Bool
 | [],[]=>false
 | [],_ :: _=>true
 | _ :: _,[]=>false
 | x :: xs,y :: ys=>if x=y then Kw xs ys else U1 x y
def BS:Value->OS
 | .int n _=>.i n
 | .str x _=>.s x
 | _=>.i 0
def LK:V->OS
 | .int n=>.i n
 | .str x=>.s x
 | _=>.i 0
def E5 (h:Heap):Value->List OS
 | .ref a=>match h.get? a with
  | some o=>(match o.data with
   | .seq xs _=>xs.toList.map BS
   | _=>[])
  | none=>[]
 | v=>[BS v]
def Qf (H:Hp):V->List OS
 | .ref a=>match H a with
  | some (.tup ys)=>ys.map LK
  | _=>[]
 | v=>[LK v]
def KH (k:Bool) (v:V):Prop:=if k=true then ∃ x,v=.str x else ∃ n,v=.int n
def CI (k:Bool) (v:Value):Prop:=if k=true then ∃ x t,v=.str x t else ∃ n t,v=.int n t
theorem Tg {k:Bool} {v:V} {u:Value} (r:AM v u) (h:KH k v):CI k u/\BS u=LK v:=by
 unfold KH at h;unfold CI;cases k with
 | true=>
  simp only [if_true] at h ⊢;obtain ⟨x,rfl⟩:=h;obtain ⟨t,rfl⟩:=r;exact ⟨⟨x,t,rfl⟩,rfl⟩
 | false=>
  simp only [ai,if_false] at h ⊢;obtain ⟨x,rfl⟩:=h;obtain ⟨t,rfl⟩:=r;exact ⟨⟨x,t,rfl⟩,rfl⟩
def L9 (H:Hp) (kd:Nat->Bool) (v:V):Prop:=∃ t ys,v=.ref t/\H t=some (.tup ys)/\ys ≠ []/\∀ i y,ys[i]? = some y->KH (kd i) y
def NV (h:Heap) (kd:Nat->Bool) (v:Value):Prop:=∃ t o xs n,v=.ref t/\h.get? t=some o/\o.cls=.type "tuple"/\o.data=.seq xs n/\0 < xs.size/\∀ (i:Nat) x,xs.toList[i]? = some x->CI (kd i) x
theorem UD {X:Cx} {pins:List (Addr × Obj)} {σ:St} {H:Hp} {s:Shared} (I:Au X pins σ H s) {kd:Nat->Bool} {v:V} {u:Value} (r:AM v u) (h:L9 H kd v):NV s.heap kd u/\E5 s.heap u=Qf H v:=by
 obtain ⟨t,ys,rfl,ht,ne,hy⟩:=h;cases r
 obtain ⟨_,Av,rv,⟨o,ho,hc,n,hd⟩,_⟩:=(show AV X.prog X.w H s.heap t (.tup _) from I.hok t _ ht)
 have e:Qf H (.ref t)=ys.map LK:=by
  show (match H t with | some (.tup ys)=>ys.map LK | _=>[])=_
  rw [ht]
 have e2:E5 s.heap (.ref t)=Av.map BS:=by
  show (match s.heap.get? t with | some o=>(match o.data with | .seq xs _=>xs.toList.map BS | _=>[]) | none=>[])=_
  rw [ho];dsimp only;rw [hd]
 have all:∀ {ys:List V} {Av:List Value} (k:Nat),AF ys Av->(∀ i y,ys[i]? = some y->KH (kd (k + i)) y)->(∀ (i:Nat) x,Av[i]? = some x->CI (kd (k + i)) x)/\Av.map BS=ys.map LK:=by
  intro ys;induction ys with
  | nil=>intro Av k rv _; cases rv; exact ⟨fun i x e=>by simp at e,rfl⟩
  | cons y ys ih=>
   intro Av k rv hy;cases rv with
   | cons r1 r2=>
    obtain ⟨a1,a2⟩:=Tg r1 (hy 0 y rfl);obtain ⟨b1,b2⟩:=ih (k + 1) r2 fun i z e=>by
     have:=hy (i + 1) z (by simpa using e);rw [show k + 1 + i=k + (i + 1) by lia];exact this
    refine ⟨fun i x e=>?_,by rw [ZS,ZS,a2,b2]⟩;cases i with
    | zero=>
     rw [aJ] at e;cases e
     exact a1
    | succ i=>
     have:=b1 i x (by simpa using e);rw [show k + 1 + i=k + (i + 1) by lia] at this;exact this
 obtain ⟨a1,a2⟩:=all 0 rv fun i y e=>by rw [bZ]; exact hy i y e
 refine ⟨⟨t,o,Av.toArray,n,rfl,ho,hc,hd,?_,fun i x e=>?_⟩,by rw [e,e2,a2]⟩
 ·have:=rv.length;have:0 < ys.length:=bE.mpr ne;simp;lia
 ·have:=a1 i x (by simpa using e);rw [bZ] at this;exact this
section
variable {prog:Program} {w:World} {A:Around} {E:Value->Shared->Prop} {s:Shared} {Q:Bool->Shared->Prop}
theorem SU {k b:Bool} {u v:Value} (hu:CI k u) (hv:CI k v) (h:Q (U1 (BS u) (BS v)) s):wpAny (model prog w) A (oneLt' b u v) Q E s:=by
 unfold CI at hu hv;cases k with
 | true=>
  simp only [if_true] at hu hv;obtain ⟨x,t,rfl⟩:=hu;obtain ⟨y,t',rfl⟩:=hv;cases b with
  | true=>exact oneLt_str h
  | false=>exact kat_one _ _ (PySem.P.lt_str h)
 | false=>
  simp only [ai,if_false] at hu hv;obtain ⟨x,t,rfl⟩:=hu;obtain ⟨y,t',rfl⟩:=hv;cases b with
  | true=>exact oneLt_int h
  | false=>exact kat_one _ _ (lt_int h)
theorem V9 {k:Bool} {u v:Value} (hu:CI k u) (hv:CI k v):SeqAt.EqAt A s u v (decide (BS u=BS v)):=by
 unfold CI at hu hv;cases k with
 | true=>
  simp only [if_true] at hu hv;obtain ⟨x,t,rfl⟩:=hu;obtain ⟨y,t',rfl⟩:=hv;have e:decide (BS (.str x t)=BS (.str y t'))=(x == y):=by
   show decide (OS.s x=OS.s y)=_
   rw [aZ];simp
  rw [e];exact SeqAt.EqAt.str_str x t y t'
 | false=>
  simp only [ai,if_false] at hu hv;obtain ⟨x,t,rfl⟩:=hu;obtain ⟨y,t',rfl⟩:=hv;have e:decide (BS (.int x t)=BS (.int y t'))=(x == y):=by
   show decide (OS.i x=OS.i y)=_
   rw [aZ];simp
  rw [e];exact SeqAt.EqAt.int_int x t y t'
theorem Ky {b:Bool} {kd:Nat->Bool}:∀ (xs ys:List Value) (i:Nat),(∀ (j:Nat) x,xs[j]? = some x->CI (kd (i + j)) x)->(∀ (j:Nat) x,ys[j]? = some x->CI (kd (i + j)) x) ->
  Q (Kw (xs.map BS) (ys.map BS)) s->KatLex prog w A b (decide (xs.length < ys.length)) Q (xs.zip ys) i s
 | [],[],i,_,_,h=>h
 | [],y :: ys,i,_,_,h=>h
 | x :: xs,[],i,_,_,h=>h
 | x :: xs,y :: ys,i,hx,hy,h=>by
  have kx:CI (kd i) x:=hx 0 x rfl;have ky:CI (kd i) y:=hy 0 y rfl;rw [ZS,ZS] at h;unfold Kw at h;refine kat_cons (V9 kx ky _ _ _ _ ?_);refine kat_go (fun e=>kat_yes ?_) (fun e=>kat_no (SU kx ky ?_))
  ·have e':=of_decide_eq_true e;rw [if_pos e'] at h;have r:=Ky (b:=b) (kd:=kd) xs ys (i + 1) (fun j z e=>by rw [show i + 1 + j=i + (j + 1) by lia]; exact hx (j + 1) z (by simpa using e)) (fun j z e=>by rw [show i + 1 + j=i + (j + 1) by lia]; exact hy (j + 1) z (by simpa using e)) h;have e2:decide ((x :: xs).length < (y :: ys).length)=decide (xs.length < ys.length):=by simp
   rw [e2];exact r
  ·have e':=of_decide_eq_false e;rw [if_neg e'] at h;exact h
theorem UE {kd:Nat->Bool} {u v:Value} (hu:NV s.heap kd u) (hv:NV s.heap kd v) (h:Q (Kw (E5 s.heap u) (E5 s.heap v)) s):wpAny (model prog w) A (keyLt' (tuples' true) u v) Q E s:=by
 obtain ⟨t,o,xs,n,rfl,ho,hc,hd,p,hx⟩:=hu;obtain ⟨t',o',Xw,n',rfl,Im,K0,Lz,p',M9⟩:=hv;have e1:E5 s.heap (.ref t)=xs.toList.map BS:=by
  show (match s.heap.get? t with | some o=>(match o.data with | .seq xs _=>xs.toList.map BS | _=>[]) | none=>[])=_
  rw [ho];dsimp only;rw [hd]
 have e2:E5 s.heap (.ref t')=Xw.toList.map BS:=by
  show (match s.heap.get? t' with | some o=>(match o.data with | .seq xs _=>xs.toList.map BS | _=>[]) | none=>[])=_
  rw [Im];dsimp only;rw [Lz]
 rw [e1,e2] at h;refine kat_lt ho hd Im Lz ?_;have e3:decide (xs.size < Xw.size)=decide (xs.toList.length < Xw.toList.length):=by simp
 rw [e3];exact Ky (kd:=kd) _ _ 0 (fun j x e=>by rw [bZ]; exact hx j x e) (fun j x e=>by rw [bZ]; exact M9 j x e) h
theorem Pe {kd:Nat->Bool} {vs:List Value} (h:∀ v ∈ vs,NV s.heap kd v):Cmpd prog w s (fun x y=>Kw (E5 s.heap x.1) (E5 s.heap y.1)) vs:=by
 intro h2 A h' kp;have h1:∀ v ∈ vs,NV h' kd v/\E5 h' v=E5 s.heap v:=fun v hv=>by
  obtain ⟨t,o,xs,n,rfl,ho,hc,hd,p,hx⟩:=h v hv;exists ⟨t,o,xs,n,rfl,kp t o ho,hc,hd,p,hx⟩;show (match h'.get? t with | some o=>(match o.data with | .seq xs _=>xs.toList.map BS | _=>[]) | none=>[])=(match s.heap.get? t with | some o=>(match o.data with | .seq xs _=>xs.toList.map BS | _=>[]) | none=>[])
  rw [ho,kp t o ho]
 exists tuples' true,?_
 ·intro Q E hq;have tups:∀ l:List Value,(∀ v ∈ l,NV h' kd v)->∃ fs:List Value,KatTups h' l fs/\fs.length=l.length/\∀ f ∈ fs,CI (kd 0) f:=by
   intro l;induction l with
   | nil=>intro _; exact ⟨[],KatTups.nil,rfl,fun f hf=>nomatch hf⟩
   | cons v l ih=>
    intro hl;obtain ⟨fs,k1,k2,k3⟩:=ih fun v hv=>hl v (ZW _ hv)
    obtain ⟨t,o,xs,n,rfl,ho,hc,hd,p,hx⟩:=hl v ae;have g:xs[0]? = some xs[0]:=dI p;refine ⟨xs[0] :: fs,KatTups.cons ho hc hd g k1,by rw [az,az,k2],fun f hf=>?_⟩;rcases ZF.mp hf with rfl | hf
    ·exact hx 0 _ (by rw [aX]; exact g)
    ·exact k3 f hf
  obtain ⟨fs,k1,k2,k3⟩:=tups vs fun v hv=>(h1 v hv).1
  cases ek:kd 0 with
  | true=>
   refine kat_kind (T:=.type "str") k1 (by lia) (fun v hv=>?_) rfl hq;have q:=k3 v hv;unfold CI at q;rw [ek] at q;simp only [if_true] at q;obtain ⟨x,t,rfl⟩:=q;exact Looks.now
  | false=>
   refine kat_kind (T:=.type "int") k1 (by lia) (fun v hv=>?_) rfl hq;have q:=k3 v hv;unfold CI at q;rw [ek] at q;simp only [ai,if_false] at q;obtain ⟨x,t,rfl⟩:=q;exact Looks.now
 ·intro x y hx hy Q E hq;obtain ⟨ex,mx⟩:=Ks (vs:=vs) (p:=x) (by simpa using hx);obtain ⟨ey,my⟩:=Ks (vs:=vs) (p:=y) (by simpa using hy);rw [ex,ey] at hq ⊢;dsimp only at hq ⊢;refine UE (h1 _ mx).1 (h1 _ my).1 ?_;show Q (Kw (E5 h' x.2) (E5 h' y.2)) _
  rw [(h1 _ mx).2,(h1 _ my).2];exact hq
end
theorem OU {us OV:List Value} (p:OV.Perm us):∀ {vs:List V},AF vs us->∃ DR,AF DR OV/\DR.Perm vs:=by
 induction p with
 | nil=>intro vs h; exact ⟨vs,h,.refl _⟩
 | cons x p ih=>
  intro vs h;cases h with
  | cons h1 h2=>
   obtain ⟨DR,a,b⟩:=ih h2;exact ⟨_ :: DR,.cons h1 a,b.cons _⟩
 | swap x y l=>
  intro vs h;cases h with
  | cons h1 h2=>
   cases h2 with
   | cons h3 h4=>exact ⟨_ :: _ :: _,.cons h3 (.cons h1 h4),.swap _ _ _⟩
 | trans p1 p2 Tj Ti=>
  intro vs h;obtain ⟨vs1,a1,b1⟩:=Ti h;obtain ⟨vs2,a2,b2⟩:=Tj a1;exact ⟨vs2,a2,b2.trans b1⟩
end L2
namespace L2
open PySem PySem.Spec PyProof.Rows
section
variable {prog:Program} {w:World} {A:Around} {E:Value->Shared->Prop} {s:Shared}
end
def Ep (u:AJ):AJ:=(BX u.1 u.2.1,BY u.1 u.2.1,u.2.2)
theorem Qu {H:Hp} {vs DR:List V} (p:DR.Perm vs):∀ {ws:List AJ},AE H vs (ws.map Ee)->∃ EV:List AJ,AE H DR (EV.map Ee)/\EV.Perm ws:=by
 induction p with
 | nil=>intro ws h; exact ⟨ws,h,.refl _⟩
 | cons x p ih=>
  intro ws h;cases ws with
  | nil=>cases h
  | cons u ws=>
   cases h with
   | cons h1 h2=>
    obtain ⟨EV,a,b⟩:=ih h2;exact ⟨u :: EV,.cons h1 a,b.cons u⟩
 | swap x y l=>
  intro ws h;cases ws with
  | nil=>cases h
  | cons u ws=>
   cases h with
   | cons h1 h2=>
    cases ws with
    | nil=>cases h2
    | cons v ws=>
     cases h2 with
     | cons h3 h4=>exact ⟨v :: u :: ws,.cons h3 (.cons h1 h4),.swap u v ws⟩
 | trans p1 p2 Tj Ti=>
  intro ws h;obtain ⟨ws1,a1,b1⟩:=Ti h;obtain ⟨ws2,a2,b2⟩:=Tj a1;exact ⟨ws2,a2,b2.trans b1⟩
theorem O4 {X:Cx} {ix:Nat} {x:Str} {px spos:Pos} {tg iter elt:Expr} {ifs:List Expr} {scope:Scope} {cl:List (Str × Addr)} {N:List Str} {pos:Pos} {wi:TI} {g:TG} {tt:TT} {te:TE} {σ0:St->St} (hN:X.N.Nodup) (hix:X.N[ix]? = some x) (hlx:Wh X.env.scope x) (hc:X.calm=true) (co:AD X scope cl)
  (hσ:∀ σ,σ.length=X.N.length->Ba X cl scope N σ (σ0 σ)) (hi:PI X tg iter wi)
  (hb:∀ s2 H C fp,PG (A5 X scope cl N s2 H C fp) tg g/\Wg (A5 X scope cl N s2 H C fp) ifs tt/\PE (A5 X scope cl N s2 H C fp) elt te)
  (hsw:swapsWith (.ListComp elt [⟨tg,iter,ifs,0⟩] scope pos) (some (.Name x px)) spos.line X.env=pure true:=by rfl)
  (hs:∀ x,foldedSetIterable iter X.env x=pure x:=by intro _; rfl) (hf:X.fn x=true\/X.env.scope.names.lookup x=some .local:=by first | exact .inl rfl | exact .inr rfl | assumption) :
  PS X (.Assign [.Name x px] (.ListComp elt [⟨tg,iter,ifs,0⟩] scope pos) spos) (S8 (QQ wi g tt te σ0) (MC ix)):=by
 intro pins s σ H DD I h;rw [exec_Assign_Name_used _ _ _ _ hsw];refine wpAny_bind (wpAny_standAt (wpAny_bind ?_));show wpAny _ X.A (do let _ <- comprehension (.ListComp elt [⟨tg,iter,ifs,0⟩] scope pos) scope X.env _ (newList []) false (eval iter X.env) (some (assign (.Name x px) X.env))) _ _ s
 refine wpAny_bind (wpAny_mono (wpAny_comprehension_free (use:=some (assign (.Name x px) X.env)) (Q:=fun _ s'=>SP X pins DD .next s') rfl hs co.clos co.kind co.names
  (wpAny_mono (hi pins s σ H _ I h) (fun xv s1 h1=>wpAny_mono h1 (fun itv s2 h2=>?_) fun _ _ e=>e) fun _ _ e=>e)) (fun _ s' hq=>wpAny_pure (wpAny_pure hq)) fun _ _ e=>e)
 obtain ⟨it,fp,tn,J,H2,rfl,I2,T,Gx,f2,hW⟩:=h2;refine wpAny_newObj_type (wpAny_newFunctionEnv co.cell (by intro y hy; cases hy) (fun B3 Cf BH=>?_) co.kind);dsimp only at Cf BH ⊢;generalize NM:s2.heap.push { cls:=.type "list",dict:=none,data:=.seq ([]:List Value).toArray } = HH at Cf BH ⊢;have C5:HH.objs.size=s2.heap.objs.size + 1:=by rw [<-NM,aA]
 have old:∀ b o,s2.heap.get? b=some o->B3.get? b=some o:=fun b o e=>
  BH.extBut b o (ZQ (by rw [C5]; exact au (ZK e))) (ZC _ (NM ▸ ZC _ e))
 have newD:∃ n,B3.get? s2.heap.objs.size=some { cls:=.type "list",data:=.seq ([]:List Value).toArray n }:=
  ⟨_,BH.extBut _ _ (ZQ (by rw [C5]; exact aH _)) (ZC _ (NM ▸ ZM _ rfl))⟩
 obtain ⟨W,⟨m0,w0⟩,turn⟩:=hW s2.heap.objs.size I2.fresh;have hfo:∀ b ∈ fp,∃ o,s2.heap.get? b=some o:=fun b hb=>let ⟨o,e,_⟩:=T.obj _ _ Gx b hb; ⟨o,e⟩
 have I3:Au (A5 X scope cl N s2 H2 HH.objs.size fp) [] (σ0 σ) (upd H2 s2.heap.objs.size (.lst [])) { s2 with heap:=B3,toks:=s2.toks + ([]:List (Str × Value)).length }:=
  J2 I2 f2 hfo co (hσ σ I.len) old (ZJ _) (by rw [C5]; exact ar _) (aW (by rw [C5]; exact aH _)) (.inr newD) Cf
 have fC:s2.heap.objs.size<=HH.objs.size:=by rw [C5]; exact ar _
 obtain ⟨hg,ht,he⟩:=hb s2 H2 HH.objs.size fp;have loop:∀ CB:Shared,CB = { s2 with heap:=B3,toks:=s2.toks + ([]:List (Str × Value)).length } ->
   codeAny (model X.prog X.w) X.A (.compLoop (.ListComp elt [⟨tg,iter,ifs,0⟩] scope pos) 0 (.ref it) (.ref s2.heap.objs.size) (compEnvC scope cl HH.objs.size X.env))
    (compPost (model X.prog X.w) X.A X.xe (some (assign (.Name x px) X.env)) (fun _ s'=>SP X pins DD .next s') (.ref s2.heap.objs.size) HH.objs.size) CB:=by
  rintro CB rfl;have stat:∀ {H':Hp} ,(∀ b ∈ fp,H' b=none)->∀ b ∈ fp,EU (A5 X scope cl N s2 H2 HH.objs.size fp) [] H' b:=fun hn b hb=>by
   refine ⟨hn b hb,?_,?_,.inl hb,?_,fun p hp=>by cases hp⟩
   ·obtain ⟨o,e⟩:=hfo b hb;exact ZQ (show b < HH.objs.size by rw [C5]; exact au (ZK e))
   ·intro hz;obtain ⟨_,q1,q2,_⟩:=f2 b hb;rcases ZF.mp (I2.stkSub b hz) with e | e
    ·exact q1 e
    ·exact q2 e
   ·exact fun x c e=>(f2 b hb).2.2.2.2.1 x c (co.sub x c e)
  refine CH (fun n s'=>∃ i Aw H',Au (A5 X scope cl N s2 H2 HH.objs.size fp) [] Aw H' s'/\tn i s'.heap/\(∀ b ∈ fp,H' b=none)/\W i n Aw H') ?_ m0
   ⟨0,σ0 σ,_,I3,T.keep _ _ _ Gx fun b hb o e=>old b o e,fun b hb=>?_,w0⟩
  ·rintro n s4 ⟨i,KL,H4,I4,JB,RV,w4⟩;rcases turn i n KL H4 w4 with ⟨stop,qn⟩ | ⟨go,step⟩
   ·refine wpAny_mono (T.done (A5 X scope cl N s2 H2 HH.objs.size fp) rfl rfl rfl hc i [] s4 KL H4 (fun _ _=>False) I4 (stat RV) JB stop) (fun r s5 ⟨hr,I5⟩=>?_) fun _ _ z=>z.elim
    subst hr;obtain ⟨m5,Vz,_⟩:=id I5.loc;have I6:Au X pins σ H4 s5:=Gh (h':=s5.heap) I2 f2 fC I5 (Heap.SameBut.refl _ _);have cC:∀ y c,X.env.cells.lookup y=some c->c ≠ HH.objs.size:=fun y c e=>by
     obtain ⟨v,q⟩:=I2.cell y c e;exact ZQ (ZX q.lt fC)
    have lC:X.env.locals ≠ HH.objs.size:=ZQ (ZX I2.lt fC);show wpAny _ X.A (assign (.Name x px) X.env (.ref s2.heap.objs.size)) _ X.xe s5
    refine wpAny_assign_Name (Gw I6 hN hix hlx (v:=.ref s2.heap.objs.size) rfl (fun s7 I7 ⟨a,sb,ha⟩=>?_) hf);have aC:a ≠ HH.objs.size:=by
     rcases ha with rfl | ha
     ·exact lC
     ·exact cC _ _ ha
    refine ⟨m5,Vz.sameBut sb (Ne.symm aC),fun h' Q4=>⟨_,H4,?_,qn⟩⟩;exact I7.turned (t':=s7.toks) (it:=HH.objs.size) (fun b o hb e=>(Q4.2 b hb).trans e) I5.free (Ne.symm lC) (.inr (aj I2.sz fC)) cC fun p hp z=>by
     have e:=(I2.pin p hp).1;exact absurd (ZX (ZK e) fC) (by rw [z]; exact aO _)
   ·refine wpAny_mono (T.item (A5 X scope cl N s2 H2 HH.objs.size fp) rfl rfl rfl hc i [] s4 KL H4 (fun _ _=>False) I4 (stat RV) JB go) (fun r s5 ⟨u,hr,h5⟩=>?_) fun _ _ z=>z.elim
    subst hr;refine wpAny_mono h5 (fun _ s6 ⟨x,H6,I6,r6,y6,Nj,V5⟩=>?_) fun _ _ z=>z.elim
    have VJ:=I6.pinned (stat V5) (T.obj _ _ Nj);refine wpAny_mono (hg _ s6 KL H6 x u _ VJ r6 (step x H6 y6)) (fun _ s7 ⟨FF,H7,I7,q7⟩=>?_) fun _ _ z=>z.elim
    refine wpAny_mono (ht _ s7 FF H7 _ I7 q7) (fun ok s8 ⟨H8,I8,q8⟩=>?_) fun _ _ z=>z.elim
    have again:∀ {s9:Shared} {KJ:St} {H9:Hp} ,Au (A5 X scope cl N s2 H2 HH.objs.size fp) ([] ++ EJ fp s6.heap) KJ H9 s9->(∃ m',m' < n/\W (i + 1) m' KJ H9)->∃ m,m < n/\∃ i Aw H',Au (A5 X scope cl N s2 H2 HH.objs.size fp) [] Aw H' s9/\tn i s9.heap/\(∀ b ∈ fp,H' b=none)/\W i m Aw H':=fun {s9 KJ H9} I9 n9=>by
     obtain ⟨m',hm,w9⟩:=n9;refine ⟨m',hm,i + 1,KJ,H9,I9.unpinned,T.keep _ _ _ Nj fun b hb o e=>(I9.pin (b,o) (ZT _ (ZT _ (B4 hb e)))).1,fun b hb=>?_,w9⟩;obtain ⟨o,e,d⟩:=T.obj _ _ Nj b hb;exact (I9.pin (b,o) (ZT _ (ZT _ (B4 hb e)))).2.1
    cases ok with
    | false=>
     rw [if_neg ZV] at q8 ⊢;exact again I8 q8
    | true=>
     rw [if_pos rfl] at q8 ⊢;refine wpAny_mono (he _ s8 FF H8 _ I8 q8) (fun y s9 ⟨v,H9,I9,r9,acc,hacc,hsz,q9⟩=>?_) fun _ _ z=>z.elim
     refine wpAny_mono (C4 (X:=A5 X scope cl N s2 H2 HH.objs.size fp) _ s9 FF H9 (.ref s2.heap.objs.size) [v] (.ref s2.heap.objs.size) [y] (fun _ Oa=>∃ m',m' < n/\W (i + 1) m' FF Oa) I9 rfl (.cons r9 .nil) ⟨_,acc,v,rfl,rfl,hacc,hsz,q9⟩) (fun _ MU ⟨_,Oa,VL,_,Va⟩=>?_) fun _ _ z=>z.elim
     exact again VL Va
  ·have z:=(f2 b hb).1;obtain ⟨o,e⟩:=hfo b hb;rw [Ae (ZQ (ZK e))];exact z
 exact codeAny_compStart_list (loop _ rfl) (T.self _ 0 _ _ _ (T.keep _ _ _ Gx fun b hb o e=>old b o e) (loop _ rfl))
theorem Paired.at {α β:Type} {F:α->β->Prop}:∀ {RF:List α} {RE:List β},Paired F RF RE->∀ {i:Nat} {a:α},RF[i]? = some a->∃ b,RE[i]? = some b/\F a b
 | _,_,.nil,i,a,h=>by simp at h
 | _,_,.cons r t,0,a,h=>by
  simp only [aJ,ZZ.injEq] at h;subst h;exact ⟨_,rfl,r⟩
 | _,_,.cons r t,i + 1,a,h=>by
  simp only [bM] at h;obtain ⟨b,h1,h2⟩:=Paired.at t h;exact ⟨b,by simpa using h1,h2⟩
theorem Pw {P:Program} {w:World} {k:Bj} {u:Value} (h:(Bd P w).is k u=true):AM (kV k) u:=by
 rcases Bp (show Ji k u=true from h) with ⟨i,t,rfl,rfl⟩ | ⟨x,t,rfl,rfl⟩
 ·exact ⟨t,rfl⟩
 ·exact ⟨t,rfl⟩
def U9 (a:Addr) (kvs:List (Bj × V)) (o:Obj):It:=
 ⟨fun i H=>H a=some (.frz o (.dK kvs))/\i < kvs.length,fun i H x H'=>H'=H/\∃ k v,kvs[i]? = some (k,v)/\x=kV k,fun i H=>H a=some (.frz o (.dK kvs))/\kvs.length<=i⟩
theorem NP {X:Cx} {pins:List (Addr × Obj)} {σ:St} {H:Hp} {s:Shared} {a:Addr} {o:Obj} {kvs:List (Bj × V)} {es:Array DictEntry} {ep:Nat} (I:Au X pins σ H s) (e:H a=some (.frz o (.dK kvs))) (he:o.data=.dict es ep) :
  (a == sysModules)=false/\∃ vs,KV kvs vs/\s.heap.DictAt (Bd X.prog X.w) a vs ep:=by
 obtain ⟨ho,z,hd,vs,rel,o',Yk,Uz,h1,h2,h3,h4⟩:=(show AV X.prog X.w H s.heap a (.frz o (.dK kvs)) from I.hok a _ e)
 rw [ho] at h1;cases h1
 rw [he] at h3;injection h3 with h5 h6;subst h5 h6;exact ⟨hd,vs,rel,o,es,ho,h2,he,h4⟩
theorem Pd {P:Program} {w:World} {K:ZD} {tg:Expr} (a it:Addr) {kvs:List (Bj × V)} {o:Obj} {es:Array DictEntry} {ep:Nat} (he:o.data=.dict es ep) :
  MN P w K tg (U9 a kvs o) [it] it (fun i h=>h.IsKeyIter it a i kvs.length ep) where
 mem:=by simp
 obj:=fun i h st b hb=>by
  have e:b=it:=by simpa using hb
  subst e;obtain ⟨o,e,c,d⟩:=st;exact ⟨o,e,fun v z=>by rw [d] at z; cases z⟩
 keep:=fun i h h' st k=>st.at fun o e=>k it (by simp) o e
 item:=by
  intro X hP hw hK hc i pins s σ H E I hf st hg;subst hP hw hK;obtain ⟨hq,BD⟩:=hg;obtain ⟨hd,vs,rel,da⟩:=NP I hq he;have hx:kvs[i]? = some kvs[i]:=by simp [BD]
  obtain ⟨⟨k,v⟩,hv,e1,e2⟩:=Paired.at rel hx;have hl:kvs.length=vs.length:=rel.length;obtain ⟨f0,f1,f2,f3,f4,f5⟩:=hf it (by simp);rw [hl] at st;refine wpAny_pyNext_dict_item st da hv fun key h' hkey AG sb=>?_
  have I1:Au X pins σ H { s with heap:=h' }:=I.turned (t':=s.toks) (fun b o hb e=>(sb.2 b hb).trans e) f0 f1 f3 f4 f5;rw [<-hl] at AG;obtain ⟨o',e,c,d⟩:=id AG;refine ⟨key,rfl,K2 (s:={ s with heap:=h' }) e c d (by decide) ⟨kV k,H,I1,Pw hkey,⟨rfl,k,kvs[i].2,?_,rfl⟩,AG,fun b hb=>(hf b hb).1⟩⟩;have Sr:kvs[i].1=k:=e1;rw [hx,<-Sr]
 done:=by
  intro X hP hw hK hc i pins s σ H E I hf st hg;subst hP hw hK;obtain ⟨hq,hle⟩:=hg;obtain ⟨hd,vs,rel,da⟩:=NP I hq he;have hl:kvs.length=vs.length:=rel.length;obtain ⟨f0,f1,f2,f3,f4,f5⟩:=hf it (by simp);rw [hl] at st;exact wpAny_pyNext_dict_end (I.ok.hd hc) st da (by simp; lia) fun h' eb=>⟨rfl,I.turned (t':=s.toks) (fun b o hb e=>eb b o hb e) f0 f1 f3 f4 f5⟩
 self:=fun _ _ _ _ _ st h=>wpAny_pyIter_keyiter st h
def Ez (H:Hp) (a:Addr) (kvs:List (Bj × V)) (o:Obj) (H':Hp):Prop:=(H a=some (.dK kvs)/\H'=upd H a (.frz o (.dK kvs)))\/(H a=some (.frz o (.dK kvs))/\H'=H)
theorem Ez.at {H H':Hp} {a:Addr} {kvs:List (Bj × V)} {o:Obj} (f:Ez H a kvs o H'):H' a=some (.frz o (.dK kvs)):=by
 rcases f with ⟨_,rfl⟩ | ⟨e,rfl⟩
 ·exact Ab
 ·exact e
theorem Ez.ne {H H':Hp} {a b:Addr} {kvs:List (Bj × V)} {o:Obj} (f:Ez H a kvs o H') (h:b ≠ a):H' b=H b:=by
 rcases f with ⟨_,rfl⟩ | ⟨e,rfl⟩
 ·exact Ae h
 ·rfl
theorem Au.freeze {X:Cx} {pins:List (Addr × Obj)} {σ:St} {H:Hp} {s:Shared} {a:Addr} {kvs:List (Bj × V)} (I:Au X pins σ H s) (e:Rd H a (.dK kvs)) :
  ∃ o es ep H',o.data=.dict es ep/\Ez H a kvs o H'/\Au X pins σ H' s:=by
 rcases e with e | ⟨o,e⟩
 ·obtain ⟨z,hd,vs,rel,o,es,ep,h1,h2,h3,h4⟩:=(show AV X.prog X.w H s.heap a (.dK kvs) from I.hok a _ e)
  exists o,es,ep,upd H a (.frz o (.dK kvs)),h3,.inl ⟨e,rfl⟩;exact I.write (x:=a) (e:=a) (h':=s.heap) (t':=s.toks) (by rw [e]; exact True.intro) (.inl rfl) (fun b u _ q=>q) ⟨o,h1⟩ ⟨h1,z,hd,vs,rel,o,es,ep,h1,h2,h3,h4⟩
 ·obtain ⟨ho,z,hd,vs,rel,o',es,ep,h1,h2,h3,h4⟩:=(show AV X.prog X.w H s.heap a (.frz o (.dK kvs)) from I.hok a _ e)
  rw [ho] at h1;cases h1
  exact ⟨o,es,ep,H,h3,.inr ⟨e,rfl⟩,I⟩
def iDict (tl:TE):TI:=fun σ H R=>tl σ H fun x H1=>∃ a kvs,x=.ref a/\Rd H1 a (.dK kvs)/\∀ o H2,Ez H1 a kvs o H2->R (U9 a kvs o) H2
theorem O7 {X:Cx} {tg l:Expr} {tl:TE} (hl:PE X l tl):PI X tg l (iDict tl):=by
 intro pins s σ H R I h;refine B0 (hl pins s σ H _ I h) fun v s1 ⟨x,H1,I1,r1,q1⟩=>?_
 obtain ⟨a,kvs,e,hr,q⟩:=q1;subst e;cases r1
 obtain ⟨o,es,ep,H2,he,fz,I2⟩:=I1.freeze hr;obtain ⟨hd,vs,rel,da⟩:=NP I2 fz.at he;refine wpAny_pyIter_dict hd da ?_;refine ⟨s1.heap.objs.size,[s1.heap.objs.size],_,_,H2,rfl,I2.kept (t':=s1.toks) fun b o e=>ZC _ e,Pd a _ he,⟨_,ZM _ rfl,rfl,?_⟩,fun b hb=>?_,q o H2 fz⟩
 ·rw [rel.length]; rfl
 ·have e:b=s1.heap.objs.size:=by simpa using hb
  subst e;exact I2.fpOk (ZJ _) (I2.hok.fresh (ZJ _))
theorem RW {a:Addr} {kvs:List (Bj × V)} {o:Obj} {g:TG} {tb:TS} {D:Gs} {σ:St} {H:Hp} (Pv:Nat->St->Hp->Prop) (h0:Pv 0 σ H) (hl:∀ i σ H,i<=kvs.length->Pv i σ H->H a=some (.frz o (.dK kvs)))
  (hs:∀ i k v σ H,kvs[i]? = some (k,v)->Pv i σ H->g (kV k) σ H fun AB H2=>tb { D with nx:=Pv (i + 1),ct:=Pv (i + 1),bk:=D.nx } AB H2) (hd:∀ σ H,Pv kvs.length σ H->D.nx σ H) :
  ∃ W:Nat->Nat->St->Hp->Prop,(∃ m,W 0 m σ H)/\∀ i m σ H,W i m σ H ->
   ((U9 a kvs o).stop i H/\D.nx σ H)\/((U9 a kvs o).go i H/\∃ N:St->Hp->Prop,(∀ Aw H',N Aw H'->∃ m',m' < m/\W (i + 1) m' Aw H')/\∀ x H',(U9 a kvs o).yld i H x H'->g x σ H' fun AB H2=>tb { D with nx:=N,ct:=N,bk:=D.nx } AB H2):=by
 exists fun i m σ H=>m=kvs.length - i/\i<=kvs.length/\Pv i σ H,⟨kvs.length,by simp,ao _,h0⟩
 rintro i m σ H ⟨rfl,hi,p⟩;have q:=hl i σ H hi p;by_cases BD:i < kvs.length
 ·refine .inr ⟨⟨q,BD⟩,Pv (i + 1),fun Aw H' p'=>⟨kvs.length - (i + 1),by lia,rfl,BD,p'⟩,fun x H' y=>?_⟩;obtain ⟨e,k,v,e1,e2⟩:=y;subst e e2;exact hs i k v σ _ e1 p
 ·have e:i=kvs.length:=by lia
  subst e;exact .inl ⟨⟨q,ZJ _⟩,hd σ H p⟩
section
variable {prog:Program} {w:World} {A:Around} {E:Value->Shared->Prop} {s:Shared}
end
theorem GH (a:List Nat):¬ a < a:=cK a
section
variable {X:Cx} {pins:List (Addr × Obj)} {σ Aw:St} {H H':Hp} {s2 s':Shared} {scope:Scope} {cl:List (Str × Addr)} {N:List Str} {fp:List Addr} {C D:Addr} {B3 h':Heap} {t':Nat}
theorem HK {ob:HO} (I:Au X pins σ H s2) (hf:∀ b ∈ fp,EU X pins H b) (hfo:∀ b ∈ fp,∃ o,s2.heap.get? b=some o) (co:AD X scope cl) (hσ:Ba X cl scope N σ Aw)
  (k:∀ b o,s2.heap.get? b=some o->B3.get? b=some o) (hD:s2.heap.objs.size<=D) (hC:s2.heap.objs.size<=C) (hDC:C ≠ D)
  (newO:AV X.prog X.w (upd H D ob) B3 D ob) {m:Str->Option Value} (hn:B3.Ns C m) :
  Au (A5 X scope cl N s2 H C fp) [] Aw (upd H D ob) { s2 with heap:=B3,toks:=t' }:=by
 have fD:H D=none:=I.hok.fresh hD;have fC:H C=none:=I.hok.fresh hC;have lts:∀ b ∈ fp,b < s2.heap.objs.size:=fun b hb=>let ⟨_,e⟩:=hfo b hb; ZK e
 have cells_lt:∀ x c,cl.lookup x=some c->c < s2.heap.objs.size:=fun x c e=>by
  obtain ⟨v,q⟩:=I.cell x c (co.sub x c e);exact q.lt
 have ok:Cx.Ok (A5 X scope cl N s2 H C fp):=by
  refine ⟨I.ok.mod,?_,I.ok.glob,I.ok.blt,hC,?_,?_,?_,I.ok.hd,I.ok.frames,.inl rfl,?_,I.bs,aj I.ok.bsz I.sz,?_,?_,I.stack,I.stkFree⟩
  ·exact co.kind
  ·exact fun x y c e1 e2=>I.ok.inj x y c (co.sub x c e1) (co.sub y c e2)
  ·exact fun x h=>co.has x h
  ·exact fun x c h _=>by cases h
  ·intro b hb;refine ⟨fun e=>?_,fun x c e=>(hf b hb).2.2.2.2.1 x c (co.sub x c e)⟩;have z:=lts b hb;exact absurd (ZX z hC) (by rw [show b=C from e]; exact aO _)
  ·intro b o e hb;have Ip:b ∈ fp:=hb;rcases (hf b Ip).2.2.2.1 with z | z
   ·exact I.ok.noex b o e z
   ·exact absurd (ZX (ZK e) (aj I.ok.bsz z)) (aO _)
  ·intro b hb hz;have Ip:b ∈ fp:=hb;obtain ⟨_,f1,f2,_⟩:=hf b Ip;rcases ZF.mp (I.stkSub b hz) with e | e
   ·exact f1 e
   ·exact f2 e
 refine ⟨ok,rfl,I.bare,Un.laid k hD fD,?_,?_,?_,?_,?_,I.hok.laid k hD newO,hσ.1⟩
 ·refine ⟨m,hn,fun i x v e1 e2 _=>?_⟩;obtain ⟨⟨j,j1,j2⟩,kk,kr⟩:=hσ.2 i x v e1 e2;obtain ⟨mo,_,hl⟩:=I.loc;obtain ⟨u,r,l⟩:=hl j x v j1 j2 (by
   rcases kk with z | z
   ·exact .inr (.inl z)
   ·exact .inr (.inr z))
  refine ⟨u,r,.inr ⟨kr,?_⟩⟩;obtain ⟨c,hc⟩:=co.has x kr;rcases l with ⟨z,_⟩ | ⟨_,c',K0,hcell⟩
  ·rcases kk with q | q
   ·rw [z] at q; cases q
   ·rw [z] at q; cases q
  ·have e3:=co.sub x c hc;rw [K0] at e3;have e4:c'=c:=ZZ.inj e3;subst e4;obtain ⟨o,ho,hd⟩:=hcell;exact ⟨c',hc,o,k _ o ho,hd⟩
 ·intro x c e;obtain ⟨v,o,ho,hd⟩:=I.cell x c (co.sub x c e);exact ⟨v,o,k _ o ho,hd⟩
 ·show upd H D ob C=none
  rw [Ae hDC];exact fC
 ·intro x c e;rw [Ae (ZQ (ZX (cells_lt x c e) hD))];exact I.freeC x c (co.sub x c e)
 ·intro p hp;cases hp
end
section
variable {prog:Program} {w:World} {A:Around} {R:Result->Shared->Prop} {s:Shared}
theorem Cz {kx vx target iter:Expr} {ifs:List Expr} {scope:Scope} {pos:Pos} {it:Value} {D:Addr} {env:Env} (I:Nat->Shared->Prop)
  (turn:∀ n s,I n s->wpAny (model prog w) A (pyNext it) (fun r Bc=>match r with
   | none=>R (.ok .next) Bc
   | some v=>wpAny (model prog w) A (letOwnedTupleGo target it v) (fun _ LM=>wpAny (model prog w) A (assign target env v) (fun _ E7=>
     wpAny (model prog w) A (forIn ifs true fun c r=>if r=true then do let ok <- isTrue c env (eval c env); pure (ForInStep.yield ok) else pure (ForInStep.yield r)) (fun ok CB=>
      if ok=true then wpAny (model prog w) A (eval kx env) (fun kv QS=>wpAny (model prog w) A (eval vx env) (fun vv QR=>
       wpAny (model prog w) A (dictSet D kv vv) (fun _ Wk=>∃ m,m < n/\I m Wk) (notedBy (model prog w) A env fun e s'=>R (.error e) s') QR) (notedBy (model prog w) A env fun e s'=>R (.error e) s') QS) (notedBy (model prog w) A env fun e s'=>R (.error e) s') CB
      else ∃ m,m < n/\I m CB) (notedBy (model prog w) A env fun e s'=>R (.error e) s') E7) (notedBy (model prog w) A env fun e s'=>R (.error e) s') LM) (notedBy (model prog w) A env fun e s'=>R (.error e) s') Bc) (notedBy (model prog w) A env fun e s'=>R (.error e) s') s)
  (n:Nat) (h:I n s) :
  codeAny (model prog w) A (.compLoop (.DictComp kx vx [⟨target,iter,ifs,0⟩] scope pos) 0 it (.ref D) env) R s:=by
 refine codeAny_loop rfl I (fun n s hI=>?_) n h;show wpAny _ A ((compTurn (.DictComp kx vx [⟨target,iter,ifs,0⟩] scope pos) 0 it (.ref D) env).onRaise (fun x=>do noteFrame x env; theTreesLotGoes x)) _ _ s
 refine wpAny_noted ?_;rw [compTurn_dict];refine wpAny_bind (wpAny_standAt (wpAny_bind (wpAny_mono (turn n s hI) (fun r Bc B3=>?_) fun _ _ h'=>h')));cases r with
 | none=>exact wpAny_pure B3
 | some v=>
  refine wpAny_bind (wpAny_mono B3 (fun _ LM RN=>?_) fun _ _ h'=>h');refine wpAny_bind (wpAny_mono RN (fun _ E7 GV=>wpAny_bind (wpAny_mono GV (fun ok CB HU=>?_) fun _ _ h'=>h')) fun _ _ h'=>h');cases ok with
  | false=>exact wpAny_pure ⟨rfl,HU⟩
  | true=>
   exact wpAny_bind (wpAny_bind (wpAny_mono HU (fun kv QS NH=>wpAny_bind (wpAny_holding (wpAny_mono NH (fun vv QR Df=>wpAny_bind (wpAny_standAt (wpAny_holding (wpAny_mono Df (fun _ Wk YR=>wpAny_pure ⟨rfl,YR⟩) fun _ _ h'=>h')))) fun _ _ h'=>h'))) fun _ _ h'=>h'))
end
theorem K7 {X:Cx} {pins:List (Addr × Obj)} {σ:St} {H:Hp} {s:Shared} {a:Addr} {k:Bj} {v:V} {u r:Value} {kvs:List (Bj × V)} {A:Around} {E:Value->Shared->Prop} {Q:Unit->Shared->Prop} (I:Au X pins σ H s) (e:H a=some (.dK kvs)) (l:kvs.length < sizeLine) (ry:AM (kV k) u) (rv:AM v r)
  (h:∀ s',Au X pins σ (upd H a (.dK (BM kvs k v))) s'->Q () s'):wpAny (model X.prog X.w) A (dictSet a u r) Q E s:=by
 obtain ⟨z,hd,vs,rel,dd⟩:=Sd I.hok e;have hz:vs.length<=sizeLine:=by rw [<-rel.length]; exact z
 have hl:(BM kvs k v).length<=sizeLine:=by have:=CD kvs k v; lia
 refine wpAny_dictSet_pairs (hsz:=hz) (HE ry) dd fun h' MZ hs=>h _ ?_
 have he:∃ q,h'.get? a=some q:=let ⟨q,_,_,hq,_⟩:=MZ; ⟨q,hq⟩;exact Ir I (by rw [e]; exact True.intro) hs he (L6 hl hd (rel.put k rv) MZ)
def QP (wi:TI) (g:TG) (tt:TT) (tk tv:TE) (σ0:St->St):TE:=fun σ H Q=>wi σ H fun J H1=>∀ D,H1 D=none->∃ W:Nat->Nat->St->Hp->Prop,(∃ m,W 0 m (σ0 σ) (upd H1 D (.dK []))) /\
 ∀ i m Aw H',W i m Aw H'->(J.stop i H'/\Q (.ref D) H')\/(J.go i H'/\∀ x H2,J.yld i H' x H2->g x Aw H2 fun AB H3=>tt AB H3 fun b H4=>
  if b=true then tk AB H4 (fun y H5=>tv AB H5 fun v H6=>∃ kvs k,y=kV k/\H6 D=some (.dK kvs)/\kvs.length < sizeLine/\∃ m',m' < m/\W (i + 1) m' AB (upd H6 D (.dK (BM kvs k v)))) else ∃ m',m' < m/\W (i + 1) m' AB H4)
theorem IT {X:Cx} {tg iter kx vx:Expr} {ifs:List Expr} {scope:Scope} {cl:List (Str × Addr)} {N:List Str} {pos:Pos} {wi:TI} {g:TG} {tt:TT} {tk tv:TE} {σ0:St->St} (hc:X.calm=true) (co:AD X scope cl)
  (hσ:∀ σ,σ.length=X.N.length->Ba X cl scope N σ (σ0 σ)) (hi:PI X tg iter wi)
  (hb:∀ s2 H C fp,PG (A5 X scope cl N s2 H C fp) tg g/\Wg (A5 X scope cl N s2 H C fp) ifs tt/\PE (A5 X scope cl N s2 H C fp) kx tk/\PE (A5 X scope cl N s2 H C fp) vx tv)
  (hs:∀ x,foldedSetIterable iter X.env x=pure x:=by intro _; rfl):PE X (.DictComp kx vx [⟨tg,iter,ifs,0⟩] scope pos) (QP wi g tt tk tv σ0):=by
 intro pins s σ H Q I h;rw [arm_eval_DictComp];refine wpAny_comprehension_free (use:=none) rfl hs co.clos co.kind co.names (wpAny_mono (hi pins s σ H _ I h) (fun xv s1 h1=>wpAny_mono h1 (fun itv s2 h2=>?_) fun _ _ e=>e) fun _ _ e=>e);obtain ⟨it,fp,tn,J,H2,rfl,I2,T,Gx,f2,hW⟩:=h2;refine wpAny_newObj_type (wpAny_newFunctionEnv co.cell (by intro y hy; cases hy) (fun B3 Cf BH=>?_) co.kind);dsimp only at Cf BH ⊢;generalize NM:s2.heap.push { cls:=.type "dict",dict:=none,data:=.dict #[] } = HH at Cf BH ⊢;have C5:HH.objs.size=s2.heap.objs.size + 1:=by rw [<-NM,aA]
 have old:∀ b o,s2.heap.get? b=some o->B3.get? b=some o:=fun b o e=>
  BH.extBut b o (ZQ (by rw [C5]; exact au (ZK e))) (ZC _ (NM ▸ ZC _ e))
 have newD:AV X.prog X.w (upd H2 s2.heap.objs.size (.dK [])) B3 s2.heap.objs.size (.dK []):=
  let ⟨z,hd,vs,rel,o,es,ep,ho,r⟩:=Jx (P:=X.prog) (w:=X.w) (H:=upd H2 s2.heap.objs.size (.dK [])) s2.heap I2.big
  ⟨z,hd,vs,rel,o,es,ep,BH.extBut _ _ (ZQ (by rw [C5]; exact aH _)) (ZC _ (NM ▸ ho)),r⟩
 obtain ⟨W,⟨m0,w0⟩,turn⟩:=hW s2.heap.objs.size I2.fresh;have hfo:∀ b ∈ fp,∃ o,s2.heap.get? b=some o:=fun b hb=>let ⟨o,e,_⟩:=T.obj _ _ Gx b hb; ⟨o,e⟩
 have I3:Au (A5 X scope cl N s2 H2 HH.objs.size fp) [] (σ0 σ) (upd H2 s2.heap.objs.size (.dK [])) { s2 with heap:=B3,toks:=s2.toks + ([]:List (Str × Value)).length }:=
  HK I2 f2 hfo co (hσ σ I.len) old (ZJ _) (by rw [C5]; exact ar _) (aW (by rw [C5]; exact aH _)) newD Cf
 have fC:s2.heap.objs.size<=HH.objs.size:=by rw [C5]; exact ar _
 obtain ⟨hg,ht,hk,hv⟩:=hb s2 H2 HH.objs.size fp;have loop:∀ CB:Shared,CB = { s2 with heap:=B3,toks:=s2.toks + ([]:List (Str × Value)).length } ->
   codeAny (model X.prog X.w) X.A (.compLoop (.DictComp kx vx [⟨tg,iter,ifs,0⟩] scope pos) 0 (.ref it) (.ref s2.heap.objs.size) (compEnvC scope cl HH.objs.size X.env))
    (compPost (model X.prog X.w) X.A X.xe none (EP X pins σ Q) (.ref s2.heap.objs.size) HH.objs.size) CB:=by
  rintro CB rfl;have stat:∀ {H':Hp} ,(∀ b ∈ fp,H' b=none)->∀ b ∈ fp,EU (A5 X scope cl N s2 H2 HH.objs.size fp) [] H' b:=fun hn b hb=>by
   refine ⟨hn b hb,?_,?_,.inl hb,?_,fun p hp=>by cases hp⟩
   ·obtain ⟨o,e⟩:=hfo b hb;exact ZQ (show b < HH.objs.size by rw [C5]; exact au (ZK e))
   ·intro hz;obtain ⟨_,q1,q2,_⟩:=f2 b hb;rcases ZF.mp (I2.stkSub b hz) with e | e
    ·exact q1 e
    ·exact q2 e
   ·exact fun x c e=>(f2 b hb).2.2.2.2.1 x c (co.sub x c e)
  refine Cz (fun n s'=>∃ i Aw H',Au (A5 X scope cl N s2 H2 HH.objs.size fp) [] Aw H' s'/\tn i s'.heap/\(∀ b ∈ fp,H' b=none)/\W i n Aw H') ?_ m0
   ⟨0,σ0 σ,_,I3,T.keep _ _ _ Gx fun b hb o e=>old b o e,fun b hb=>?_,w0⟩
  ·rintro n s4 ⟨i,KL,H4,I4,JB,RV,w4⟩;rcases turn i n KL H4 w4 with ⟨stop,qn⟩ | ⟨go,step⟩
   ·refine wpAny_mono (T.done (A5 X scope cl N s2 H2 HH.objs.size fp) rfl rfl rfl hc i [] s4 KL H4 (fun _ _=>False) I4 (stat RV) JB stop) (fun r s5 ⟨hr,I5⟩=>?_) fun _ _ z=>z.elim
    subst hr;obtain ⟨m5,Vz,_⟩:=id I5.loc;exact ⟨m5,Vz,fun h' Q4=>⟨.ref _,H4,Gh I2 f2 fC I5 Q4,rfl,qn⟩⟩
   ·refine wpAny_mono (T.item (A5 X scope cl N s2 H2 HH.objs.size fp) rfl rfl rfl hc i [] s4 KL H4 (fun _ _=>False) I4 (stat RV) JB go) (fun r s5 ⟨u,hr,h5⟩=>?_) fun _ _ z=>z.elim
    subst hr;refine wpAny_mono h5 (fun _ s6 ⟨x,H6,I6,r6,y6,Nj,V5⟩=>?_) fun _ _ z=>z.elim
    have VJ:=I6.pinned (stat V5) (T.obj _ _ Nj);refine wpAny_mono (hg _ s6 KL H6 x u _ VJ r6 (step x H6 y6)) (fun _ s7 ⟨FF,H7,I7,q7⟩=>?_) fun _ _ z=>z.elim
    refine wpAny_mono (ht _ s7 FF H7 _ I7 q7) (fun ok s8 ⟨H8,I8,q8⟩=>?_) fun _ _ z=>z.elim
    have again:∀ {s9:Shared} {KJ:St} {H9:Hp} ,Au (A5 X scope cl N s2 H2 HH.objs.size fp) ([] ++ EJ fp s6.heap) KJ H9 s9->(∃ m',m' < n/\W (i + 1) m' KJ H9)->∃ m,m < n/\∃ i Aw H',Au (A5 X scope cl N s2 H2 HH.objs.size fp) [] Aw H' s9/\tn i s9.heap/\(∀ b ∈ fp,H' b=none)/\W i m Aw H':=fun {s9 KJ H9} I9 n9=>by
     obtain ⟨m',hm,w9⟩:=n9;refine ⟨m',hm,i + 1,KJ,H9,I9.unpinned,T.keep _ _ _ Nj fun b hb o e=>(I9.pin (b,o) (ZT _ (ZT _ (B4 hb e)))).1,fun b hb=>?_,w9⟩;obtain ⟨o,e,d⟩:=T.obj _ _ Nj b hb;exact (I9.pin (b,o) (ZT _ (ZT _ (B4 hb e)))).2.1
    cases ok with
    | false=>
     rw [if_neg ZV] at q8 ⊢;exact again I8 q8
    | true=>
     rw [if_pos rfl] at q8 ⊢;refine wpAny_mono (hk _ s8 FF H8 _ I8 q8) (fun yk s9 ⟨k,H9,I9,r9,q9⟩=>?_) fun _ _ z=>z.elim
     refine wpAny_mono (hv _ s9 FF H9 _ I9 q9) (fun yv MU ⟨v,Oa,VL,YB,kvs,key,ek,hacc,hsz,Va⟩=>?_) fun _ _ z=>z.elim
     subst ek;exact K7 (X:=A5 X scope cl N s2 H2 HH.objs.size fp) VL hacc hsz r9 YB fun s11 Z8=>again Z8 Va
  ·have z:=(f2 b hb).1;obtain ⟨o,e⟩:=hfo b hb;rw [Ae (ZQ (ZK e))];exact z
 exact codeAny_compStart_dict (loop _ rfl) (T.self _ 0 _ _ _ (T.keep _ _ _ Gx fun b hb o e=>old b o e) (loop _ rfl))
theorem Rx {X:Cx} {ix:Nat} {x:Str} {px spos:Pos} {tg iter kx vx:Expr} {ifs:List Expr} {scope:Scope} {cl:List (Str × Addr)} {N:List Str} {pos:Pos} {wi:TI} {g:TG} {tt:TT} {tk tv:TE} {σ0:St->St} (hN:X.N.Nodup) (hix:X.N[ix]? = some x) (hlx:Wh X.env.scope x) (hc:X.calm=true) (co:AD X scope cl)
  (hσ:∀ σ,σ.length=X.N.length->Ba X cl scope N σ (σ0 σ)) (hi:PI X tg iter wi)
  (hb:∀ s2 H C fp,PG (A5 X scope cl N s2 H C fp) tg g/\Wg (A5 X scope cl N s2 H C fp) ifs tt/\PE (A5 X scope cl N s2 H C fp) kx tk/\PE (A5 X scope cl N s2 H C fp) vx tv)
  (hsw:swapsWith (.DictComp kx vx [⟨tg,iter,ifs,0⟩] scope pos) (some (.Name x px)) spos.line X.env=pure true:=by rfl)
  (hs:∀ x,foldedSetIterable iter X.env x=pure x:=by intro _; rfl) (hf:X.fn x=true\/X.env.scope.names.lookup x=some .local:=by first | exact .inl rfl | exact .inr rfl | assumption) :
  PS X (.Assign [.Name x px] (.DictComp kx vx [⟨tg,iter,ifs,0⟩] scope pos) spos) (S8 (QP wi g tt tk tv σ0) (MC ix)):=by
 intro pins s σ H DD I h;rw [exec_Assign_Name_used _ _ _ _ hsw];refine wpAny_bind (wpAny_standAt (wpAny_bind ?_));show wpAny _ X.A (do let _ <- comprehension (.DictComp kx vx [⟨tg,iter,ifs,0⟩] scope pos) scope X.env _ newDict false (eval iter X.env) (some (assign (.Name x px) X.env))) _ _ s
 refine wpAny_bind (wpAny_mono (wpAny_comprehension_free (use:=some (assign (.Name x px) X.env)) (Q:=fun _ s'=>SP X pins DD .next s') rfl hs co.clos co.kind co.names
  (wpAny_mono (hi pins s σ H _ I h) (fun xv s1 h1=>wpAny_mono h1 (fun itv s2 h2=>?_) fun _ _ e=>e) fun _ _ e=>e)) (fun _ s' hq=>wpAny_pure (wpAny_pure hq)) fun _ _ e=>e)
 obtain ⟨it,fp,tn,J,H2,rfl,I2,T,Gx,f2,hW⟩:=h2;refine wpAny_newObj_type (wpAny_newFunctionEnv co.cell (by intro y hy; cases hy) (fun B3 Cf BH=>?_) co.kind);dsimp only at Cf BH ⊢;generalize NM:s2.heap.push { cls:=.type "dict",dict:=none,data:=.dict #[] } = HH at Cf BH ⊢;have C5:HH.objs.size=s2.heap.objs.size + 1:=by rw [<-NM,aA]
 have old:∀ b o,s2.heap.get? b=some o->B3.get? b=some o:=fun b o e=>
  BH.extBut b o (ZQ (by rw [C5]; exact au (ZK e))) (ZC _ (NM ▸ ZC _ e))
 have newD:AV X.prog X.w (upd H2 s2.heap.objs.size (.dK [])) B3 s2.heap.objs.size (.dK []):=
  let ⟨z,hd,vs,rel,o,es,ep,ho,r⟩:=Jx (P:=X.prog) (w:=X.w) (H:=upd H2 s2.heap.objs.size (.dK [])) s2.heap I2.big
  ⟨z,hd,vs,rel,o,es,ep,BH.extBut _ _ (ZQ (by rw [C5]; exact aH _)) (ZC _ (NM ▸ ho)),r⟩
 obtain ⟨W,⟨m0,w0⟩,turn⟩:=hW s2.heap.objs.size I2.fresh;have hfo:∀ b ∈ fp,∃ o,s2.heap.get? b=some o:=fun b hb=>let ⟨o,e,_⟩:=T.obj _ _ Gx b hb; ⟨o,e⟩
 have I3:Au (A5 X scope cl N s2 H2 HH.objs.size fp) [] (σ0 σ) (upd H2 s2.heap.objs.size (.dK [])) { s2 with heap:=B3,toks:=s2.toks + ([]:List (Str × Value)).length }:=
  HK I2 f2 hfo co (hσ σ I.len) old (ZJ _) (by rw [C5]; exact ar _) (aW (by rw [C5]; exact aH _)) newD Cf
 have fC:s2.heap.objs.size<=HH.objs.size:=by rw [C5]; exact ar _
 obtain ⟨hg,ht,hk,hv⟩:=hb s2 H2 HH.objs.size fp;have loop:∀ CB:Shared,CB = { s2 with heap:=B3,toks:=s2.toks + ([]:List (Str × Value)).length } ->
   codeAny (model X.prog X.w) X.A (.compLoop (.DictComp kx vx [⟨tg,iter,ifs,0⟩] scope pos) 0 (.ref it) (.ref s2.heap.objs.size) (compEnvC scope cl HH.objs.size X.env))
    (compPost (model X.prog X.w) X.A X.xe (some (assign (.Name x px) X.env)) (fun _ s'=>SP X pins DD .next s') (.ref s2.heap.objs.size) HH.objs.size) CB:=by
  rintro CB rfl;have stat:∀ {H':Hp} ,(∀ b ∈ fp,H' b=none)->∀ b ∈ fp,EU (A5 X scope cl N s2 H2 HH.objs.size fp) [] H' b:=fun hn b hb=>by
   refine ⟨hn b hb,?_,?_,.inl hb,?_,fun p hp=>by cases hp⟩
   ·obtain ⟨o,e⟩:=hfo b hb;exact ZQ (show b < HH.objs.size by rw [C5]; exact au (ZK e))
   ·intro hz;obtain ⟨_,q1,q2,_⟩:=f2 b hb;rcases ZF.mp (I2.stkSub b hz) with e | e
    ·exact q1 e
    ·exact q2 e
   ·exact fun x c e=>(f2 b hb).2.2.2.2.1 x c (co.sub x c e)
  refine Cz (fun n s'=>∃ i Aw H',Au (A5 X scope cl N s2 H2 HH.objs.size fp) [] Aw H' s'/\tn i s'.heap/\(∀ b ∈ fp,H' b=none)/\W i n Aw H') ?_ m0
   ⟨0,σ0 σ,_,I3,T.keep _ _ _ Gx fun b hb o e=>old b o e,fun b hb=>?_,w0⟩
  ·rintro n s4 ⟨i,KL,H4,I4,JB,RV,w4⟩;rcases turn i n KL H4 w4 with ⟨stop,qn⟩ | ⟨go,step⟩
   ·refine wpAny_mono (T.done (A5 X scope cl N s2 H2 HH.objs.size fp) rfl rfl rfl hc i [] s4 KL H4 (fun _ _=>False) I4 (stat RV) JB stop) (fun r s5 ⟨hr,I5⟩=>?_) fun _ _ z=>z.elim
    subst hr;obtain ⟨m5,Vz,_⟩:=id I5.loc;have I6:Au X pins σ H4 s5:=Gh (h':=s5.heap) I2 f2 fC I5 (Heap.SameBut.refl _ _);have cC:∀ y c,X.env.cells.lookup y=some c->c ≠ HH.objs.size:=fun y c e=>by
     obtain ⟨v,q⟩:=I2.cell y c e;exact ZQ (ZX q.lt fC)
    have lC:X.env.locals ≠ HH.objs.size:=ZQ (ZX I2.lt fC);show wpAny _ X.A (assign (.Name x px) X.env (.ref s2.heap.objs.size)) _ X.xe s5
    refine wpAny_assign_Name (Gw I6 hN hix hlx (v:=.ref s2.heap.objs.size) rfl (fun s7 I7 ⟨a,sb,ha⟩=>?_) hf);have aC:a ≠ HH.objs.size:=by
     rcases ha with rfl | ha
     ·exact lC
     ·exact cC _ _ ha
    refine ⟨m5,Vz.sameBut sb (Ne.symm aC),fun h' Q4=>⟨_,H4,?_,qn⟩⟩;exact I7.turned (t':=s7.toks) (it:=HH.objs.size) (fun b o hb e=>(Q4.2 b hb).trans e) I5.free (Ne.symm lC) (.inr (aj I2.sz fC)) cC fun p hp z=>by
     have e:=(I2.pin p hp).1;exact absurd (ZX (ZK e) fC) (by rw [z]; exact aO _)
   ·refine wpAny_mono (T.item (A5 X scope cl N s2 H2 HH.objs.size fp) rfl rfl rfl hc i [] s4 KL H4 (fun _ _=>False) I4 (stat RV) JB go) (fun r s5 ⟨u,hr,h5⟩=>?_) fun _ _ z=>z.elim
    subst hr;refine wpAny_mono h5 (fun _ s6 ⟨x,H6,I6,r6,y6,Nj,V5⟩=>?_) fun _ _ z=>z.elim
    have VJ:=I6.pinned (stat V5) (T.obj _ _ Nj);refine wpAny_mono (hg _ s6 KL H6 x u _ VJ r6 (step x H6 y6)) (fun _ s7 ⟨FF,H7,I7,q7⟩=>?_) fun _ _ z=>z.elim
    refine wpAny_mono (ht _ s7 FF H7 _ I7 q7) (fun ok s8 ⟨H8,I8,q8⟩=>?_) fun _ _ z=>z.elim
    have again:∀ {s9:Shared} {KJ:St} {H9:Hp} ,Au (A5 X scope cl N s2 H2 HH.objs.size fp) ([] ++ EJ fp s6.heap) KJ H9 s9->(∃ m',m' < n/\W (i + 1) m' KJ H9)->∃ m,m < n/\∃ i Aw H',Au (A5 X scope cl N s2 H2 HH.objs.size fp) [] Aw H' s9/\tn i s9.heap/\(∀ b ∈ fp,H' b=none)/\W i m Aw H':=fun {s9 KJ H9} I9 n9=>by
     obtain ⟨m',hm,w9⟩:=n9;refine ⟨m',hm,i + 1,KJ,H9,I9.unpinned,T.keep _ _ _ Nj fun b hb o e=>(I9.pin (b,o) (ZT _ (ZT _ (B4 hb e)))).1,fun b hb=>?_,w9⟩;obtain ⟨o,e,d⟩:=T.obj _ _ Nj b hb;exact (I9.pin (b,o) (ZT _ (ZT _ (B4 hb e)))).2.1
    cases ok with
    | false=>
     rw [if_neg ZV] at q8 ⊢;exact again I8 q8
    | true=>
     rw [if_pos rfl] at q8 ⊢;refine wpAny_mono (hk _ s8 FF H8 _ I8 q8) (fun yk s9 ⟨k,H9,I9,r9,q9⟩=>?_) fun _ _ z=>z.elim
     refine wpAny_mono (hv _ s9 FF H9 _ I9 q9) (fun yv MU ⟨v,Oa,VL,YB,kvs,key,ek,hacc,hsz,Va⟩=>?_) fun _ _ z=>z.elim
     subst ek;exact K7 (X:=A5 X scope cl N s2 H2 HH.objs.size fp) VL hacc hsz r9 YB fun s11 Z8=>again Z8 Va
  ·have z:=(f2 b hb).1;obtain ⟨o,e⟩:=hfo b hb;rw [Ae (ZQ (ZK e))];exact z
 exact codeAny_compStart_dict (loop _ rfl) (T.self _ 0 _ _ _ (T.keep _ _ _ Gx fun b hb o e=>old b o e) (loop _ rfl))
theorem Lh (p x:Str) (r:List Str):risingS p (x :: r)=(!ltCps x.cps.toList p.cps.toList && risingS x r):=rfl
theorem Ko:∀ (p:Str) (l:List Str),risingS p l=true->(p :: l).Pairwise fun a b=>¬ b.cps.toList < a.cps.toList
 | p,[],_=>dQ _ _
 | p,x :: r,h=>by
  rw [Lh,aB,ltCps_eq] at h;have h1:¬ x.cps.toList < p.cps.toList:=by simpa using h.1
  have h2:=Ko x r h.2;refine bJ.mpr ⟨fun y hy=>?_,h2⟩;rcases ZF.mp hy with rfl | hy
  ·exact h1
  ·have h3:=(bJ.mp h2).1 y hy;have a:p.cps.toList<=x.cps.toList:=bN.mp h1;have b:x.cps.toList<=y.cps.toList:=bN.mp h3;exact bN.mpr (gb a b)
theorem EZ {l:List Str} (h:sortedS l=true):l.Pairwise fun a b=>¬ b.cps.toList < a.cps.toList:=by
 cases l with
 | nil=>exact .nil
 | cons p l=>exact Ko p l h
theorem Dp {a b:Str} (h1:¬ b.cps.toList < a.cps.toList) (h2:¬ a.cps.toList < b.cps.toList):a=b:=by
 have e:a.cps.toList=b.cps.toList:=List.le_antisymm (bN.mp h1) (bN.mp h2);cases a; cases b
 simp only [Str.mk.injEq];exact fe.mp e
theorem Ki {l m:List Str} (hl:l.Pairwise fun a b=>¬ b.cps.toList < a.cps.toList) (hm:m.Pairwise fun a b=>¬ b.cps.toList < a.cps.toList) (p:l.Perm m):l=m:=
 List.Perm.eq_of_pairwise (fun a b _ _ h1 h2=>Dp h1 h2) hl hm p
theorem Hs {l m:List Str} (hl:l.Nodup) (hm:m.Nodup) (h:∀ x,x ∈ l ↔ x ∈ m):l.Perm m:=(List.perm_ext_iff_of_nodup hl hm).mpr h
def LG (ws:List AJ) (x y:Str):Prop:=∃ u ∈ ws,(u.1=x/\u.2.1=y)\/(u.1=y/\u.2.1=x)
theorem LG.symm {ws:List AJ} {x y:Str} (h:LG ws x y):LG ws y x:=let ⟨u,hu,h⟩:=h; ⟨u,hu,h.symm⟩
theorem C3 (u:AJ):(Ep u).1=u.1/\(Ep u).2.1=u.2.1\/(Ep u).1=u.2.1/\(Ep u).2.1=u.1:=by
 unfold Ep BX BY;by_cases h:u.2.1.cps.toList < u.1.cps.toList
 ·have h':¬ u.1.cps.toList < u.2.1.cps.toList:=cu h;rw [if_pos h,if_neg h'];exact .inr ⟨rfl,rfl⟩
 ·rw [if_neg h];by_cases h':u.1.cps.toList < u.2.1.cps.toList
  ·rw [if_pos h']; exact .inl ⟨rfl,rfl⟩
  ·rw [if_neg h'];have e:u.1=u.2.1:=Dp h h';exact .inl ⟨rfl,e⟩
theorem Sh {ws EV:List AJ} (p:EV.Perm (ws.map Ep)) (x y:Str):LG EV x y ↔ LG ws x y:=by
 constructor
 ·rintro ⟨u,hu,h⟩;obtain ⟨v,hv,rfl⟩:=ZO.mp (p.mem_iff.mp hu);exists v,hv;rcases C3 v with ⟨e1,e2⟩ | ⟨e1,e2⟩
  ·rw [e1,e2] at h; exact h
  ·rw [e1,e2] at h;rcases h with ⟨a,b⟩ | ⟨a,b⟩
   ·exact .inr ⟨b,a⟩
   ·exact .inl ⟨b,a⟩
 ·rintro ⟨v,hv,h⟩;exists Ep v,p.mem_iff.mpr (ZO.mpr ⟨v,hv,rfl⟩);rcases C3 v with ⟨e1,e2⟩ | ⟨e1,e2⟩
  ·rw [e1,e2]; exact h
  ·rw [e1,e2];rcases h with ⟨a,b⟩ | ⟨a,b⟩
   ·exact .inr ⟨b,a⟩
   ·exact .inl ⟨b,a⟩
theorem Qr {xs:List Str} {ws EV:List AJ} (p:EV.Perm (ws.map Ep)) (h:∀ u ∈ ws,u.1 ∈ xs/\u.2.1 ∈ xs):∀ u ∈ EV,u.1 ∈ xs/\u.2.1 ∈ xs:=fun u hu=>by
 obtain ⟨v,hv,rfl⟩:=ZO.mp (p.mem_iff.mp hu);obtain ⟨a,b⟩:=h v hv;rcases C3 v with ⟨e1,e2⟩ | ⟨e1,e2⟩ <;> rw [e1,e2]
 ·exact ⟨a,b⟩
 ·exact ⟨b,a⟩
def LC (xs:List Str) (ws:List AJ):Prop:=∀ j,0 < j->j < xs.length->∃ u ∈ ws,∃ i:Nat,i < j/\xs[i]? = some u.1/\xs[j]? = some u.2.1
theorem LC.all {xs:List Str} {ws:List AJ} (h:LC xs ws) (S:Str->Prop) (cl:∀ x y,LG ws x y->S x->S y) {r:Str} (hr:r ∈ xs) (sr:S r):∀ x ∈ xs,S x:=by
 have down:∀ n (i:Nat),i<=n->∀ x,xs[i]? = some x->S x->∀ x0,xs[0]? = some x0->S x0:=by
  intro n;induction n with
  | zero=>
   intro i hi x e s x0 e0;have:i=0:=by lia
   subst this;rw [e] at e0; cases e0; exact s
  | succ n ih=>
   intro i hi x e s x0 e0;by_cases hz:i=0
   ·subst hz;rw [e] at e0; cases e0; exact s
   ·obtain ⟨u,hu,k,hk,e1,e2⟩:=h i (by lia) (ZN.mp e).1;rw [e] at e2; cases e2;exact ih k (by lia) u.1 e1 (cl _ _ ⟨u,hu,.inr ⟨rfl,rfl⟩⟩ s) x0 e0
 have up:∀ x0,xs[0]? = some x0->S x0->∀ n (i:Nat),i<=n->∀ x,xs[i]? = some x->S x:=by
  intro x0 e0 s0 n;induction n with
  | zero=>
   intro i hi x e;have:i=0:=by lia
   subst this;rw [e0] at e; cases e; exact s0
  | succ n ih=>
   intro i hi x e;by_cases hz:i=0
   ·subst hz;rw [e0] at e; cases e; exact s0
   ·obtain ⟨u,hu,k,hk,e1,e2⟩:=h i (by lia) (ZN.mp e).1;rw [e] at e2; cases e2;exact cl _ _ ⟨u,hu,.inl ⟨rfl,rfl⟩⟩ (ih k (by lia) u.1 e1)
 intro x hx;obtain ⟨i,hi,e⟩:=ab hr;obtain ⟨j,hj,e'⟩:=ab hx;have h0:xs[0]? = some xs[0]:=Z9 (by lia);have s0:S xs[0]:=down i i (ZJ _) r (by rw [Z9 hi,e]) sr _ h0;exact up _ h0 s0 j j (ZJ _) x (by rw [Z9 hj,e'])
section
variable {ws:List AJ} {r:Str} {bs cs:List (Str × Option Str)}
theorem QM {α β:Type} {l:List (α × β)} (h:(l.map (·.1)).Nodup) {x:α} {a b:β} (ha:(x,a) ∈ l) (hb:(x,b) ∈ l):a=b:=by
 induction l with
 | nil=>cases ha
 | cons p l ih=>
  rw [ZS] at h;obtain ⟨h1,h2⟩:=aM.mp h;have key:∀ c,(x,c) ∈ l->p.1 ≠ x:=fun c hc z=>h1 (by rw [z]; exact ZO.mpr ⟨(x,c),hc,rfl⟩)
  rcases ZF.mp ha with e | Zl
  ·rcases ZF.mp hb with e' | WH
   ·rw [<-e] at e'; cases e'; rfl
   ·exact absurd (by rw [<-e]) (key b WH)
  ·rcases ZF.mp hb with e' | WH
   ·exact absurd (by rw [<-e']) (key a Zl)
   ·exact ih h2 Zl WH
end
section
variable {ws:List AJ} {r:Str} {wk:List (Str × List Str)}
end
theorem Dn {H2 H3:Hp} {vs:List V} {ws:List AJ} (h:AE H2 vs (ws.map Ee)) (ht:∀ b xs,H2 b=some (.tup xs)->H3 b=some (.tup xs)):AE H3 vs (ws.map Ee):=by
 induction ws generalizing vs with
 | nil=>cases h; exact .nil
 | cons u ws ih=>
  cases h with
  | cons h1 r=>
   refine .cons ?_ (ih r);cases h1 with
   | tup ha hd=>
    refine .tup (ht _ _ ha) ?_;cases hd with
    | cons h1 r1=>
     cases r1 with
     | cons h2 r2=>
      cases r2 with
      | cons h3 r3=>
       cases r3
       cases h1
       cases h2
       cases h3
       exact .cons (.str _) (.cons (.str _) (.cons (.int _) .nil))
theorem Hy {α:Type} {l:List α} (h:l.Nodup) {i j:Nat} {x:α} (a:l[i]? = some x) (b:l[j]? = some x):i=j:=
 (List.getElem?_inj (ZN.mp a).1 h).mp (a.trans b.symm)
def sK (nv:List (Str × V)):List (Bj × V):=nv.map fun q=>(Sum.inr q.1,q.2)
theorem CK (nv:List (Str × V)):(sK nv).length=nv.length:=ZA ..
theorem Lf (nv:List (Str × V)):(sK nv).map (·.1)=(nv.map (·.1)).map Sum.inr:=by unfold sK; rw [aL,aL]; rfl
theorem UR (a b:List (Str × V)):sK (a ++ b)=sK a ++ sK b:=ZG ..
theorem Le:∀ {nv:List (Str × V)} {y:Str},y ∉ nv.map (·.1)->B9 (sK nv) (Sum.inr y:Bj)=none
 | [],y,_=>rfl
 | q :: nv,y,h=>by
  rw [ZS,ZF,not_or] at h;show B9 ((Sum.inr q.1,q.2) :: sK nv) (Sum.inr y:Bj)=none
  rw [BB (fun z=>h.1 (Sum.inr.inj z).symm)];exact Le h.2
theorem DE:∀ {nv:List (Str × V)} {y:Str} {v:V},(nv.map (·.1)).Nodup->(y,v) ∈ nv->B9 (sK nv) (Sum.inr y:Bj)=some v
 | [],y,v,_,h=>nomatch h
 | q :: nv,y,v,hn,h=>by
  rw [ZS] at hn;obtain ⟨h1,h2⟩:=aM.mp hn;show B9 ((Sum.inr q.1,q.2) :: sK nv) (Sum.inr y:Bj)=some v
  rcases ZF.mp h with e | h'
  ·subst e;exact BJ rfl
  ·rw [BB (fun z=>h1 (by rw [Sum.inr.inj z]; exact ZO.mpr ⟨(y,v),h',rfl⟩))];exact DE h2 h'
theorem Hq {nv:List (Str × V)} {y:Str}:(B9 (sK nv) (Sum.inr y:Bj)).isSome=decide (y ∈ nv.map (·.1)):=by
 by_cases h:y ∈ nv.map (·.1)
 ·rw [decide_eq_true h];cases e:B9 (sK nv) (Sum.inr y:Bj) with
  | some v=>rfl
  | none=>
   have:=QO e;rw [Lf] at this;exact absurd (ZO.mpr ⟨y,h,rfl⟩) this
 ·rw [decide_eq_false h,Le h]; rfl
theorem DI {nv:List (Str × V)} {y:Str} {v:V} (h:y ∉ nv.map (·.1)):BM (sK nv) (Sum.inr y:Bj) v=sK (nv ++ [(y,v)]):=by
 rw [Ru v (Le h),UR]; rfl
theorem Nn (nv:List (Str × V)) (y:Str) (v:V):∃ DZ,BM (sK nv) (Sum.inr y:Bj) v=sK DZ/\DZ.length<=nv.length + 1/\∀ z,z ∈ DZ.map (·.1) ↔ z ∈ nv.map (·.1)\/z=y:=by
 by_cases h:y ∈ nv.map (·.1)
 ·refine ⟨nv.map fun q=>if q.1=y then (q.1,v) else q,?_,by rw [ZA]; lia,fun z=>?_⟩
  ·unfold BM;have:((sK nv).any fun kv=>decide (kv.1=(Sum.inr y:Bj)))=true:=by
    rw [Co,Hq,decide_eq_true h]
   rw [if_pos this];unfold sK;rw [aL,aL];refine bF fun q _=>?_
   by_cases e:q.1=y
   ·simp [e]
   ·have e':¬ (Sum.inr q.1:Bj)=Sum.inr y:=fun z=>e (Sum.inr.inj z)
    simp [e,e']
  ·have e:(nv.map fun q=>if q.1=y then (q.1,v) else q).map (·.1)=nv.map (·.1):=by
    rw [aL];refine bF fun q _=>?_
    by_cases e:q.1=y <;> simp [e]
   rw [e];constructor
   ·exact .inl
   ·rintro (q | rfl)
    ·exact q
    ·exact h
 ·refine ⟨nv ++ [(y,v)],DI h,by simp,fun z=>by simp⟩
theorem Ua {nv:List (Str × V)} {i:Nat} {k:Bj} {v:V} (h:(sK nv)[i]? = some (k,v)):∃ y,nv[i]? = some (y,v)/\k=.inr y:=by
 unfold sK at h;rw [ZL] at h;cases e:nv[i]? with
 | none=>rw [e] at h; cases h
 | some q=>
  rw [e] at h;simp only [bG,ZZ.injEq,Prod.mk.injEq] at h;exact ⟨q.1,by rw [<-h.2],h.1.symm⟩
structure Web (H:Hp) (q:Addr) (ps:List Str) (ws:List AJ):Prop where
 ex:∃ tp tw us,H q=some (.tup [.ref tp,.ref tw])/\H tp=some (.tup (ps.map V.str))/\H tw=some (.tup us)/\AE H us (ws.map Ee)
theorem Web.same {H H':Hp} {q:Addr} {ps:List Str} {ws:List AJ} (h:Web H q ps ws) (s:∀ b xs,H b=some (.tup xs)->H' b=some (.tup xs)):Web H' q ps ws:=by
 obtain ⟨tp,tw,us,h1,h2,h3,h4⟩:=h.ex;exact ⟨tp,tw,us,s _ _ h1,s _ _ h2,s _ _ h3,Dn h4 s⟩
def OC (ps:List Str) (ds:List Addr):List (Str × V):=(ps.zip ds).map fun q=>(q.1,V.ref q.2)
theorem Ja {ps:List Str} {ds:List Addr} (h:ps.length<=ds.length):(OC ps ds).map (·.1)=ps:=by
 unfold OC;rw [aL];have:((fun (x:Str × V)=>x.1) ∘ fun (q:Str × Addr)=>(q.1,V.ref q.2))=Prod.fst:=rfl;rw [this,List.map_fst_zip h]
theorem OB {ps:List Str} {ds:List Addr} {i:Nat} {p:Str} {d:Addr} (h1:ps[i]? = some p) (h2:ds[i]? = some d):(p,V.ref d) ∈ OC ps ds:=by
 unfold OC;refine ZO.mpr ⟨(p,d),ZE (i:=i) ?_,rfl⟩;rw [bD];exact ⟨h1,h2⟩
structure NB (H:Hp) (B:Addr) (ps:List Str) (ds:List Addr) (P:Str->Str->Prop) (n:Nat):Prop where
 top:H B=some (.dK (sK (OC ps ds)))
 len:ds.length=ps.length
 nd:ds.Nodup
 nB:B ∉ ds
 inner:∀ (i:Nat) (p:Str) (d:Addr),ps[i]? = some p->ds[i]? = some d->∃ nv:List (Str × V),H d=some (.dK (sK nv))/\nv.length<=n/\∀ y,y ∈ nv.map (·.1) ↔ P p y
theorem NB.get {H:Hp} {B:Addr} {ps:List Str} {ds:List Addr} {P:Str->Str->Prop} {n:Nat} (h:NB H B ps ds P n) (hn:ps.Nodup) {p:Str} (hp:p ∈ ps) :
  ∃ (i:Nat) (d:Addr) (nv:List (Str × V)),ps[i]? = some p/\ds[i]? = some d/\B9 (sK (OC ps ds)) (Sum.inr p:Bj)=some (.ref d)/\H d=some (.dK (sK nv))/\nv.length<=n/\∀ y,y ∈ nv.map (·.1) ↔ P p y:=by
 obtain ⟨i,hi,e⟩:=ab hp;have e1:ps[i]? = some p:=by rw [Z9 hi,e]
 have MX:i < ds.length:=by rw [h.len]; exact hi
 have e2:ds[i]? = some ds[i]:=Z9 MX;obtain ⟨nv,a1,a2,a3⟩:=h.inner i p _ e1 e2;refine ⟨i,_,nv,e1,e2,DE ?_ (OB e1 e2),a1,a2,a3⟩;rw [Ja (by rw [h.len]; exact ZJ _)];exact hn
theorem NB.put {H:Hp} {B:Addr} {ps:List Str} {ds:List Addr} {P:Str->Str->Prop} {n:Nat} (h:NB H B ps ds P n) {i:Nat} {p y:Str} {d:Addr} (hn:ps.Nodup) (e1:ps[i]? = some p) (e2:ds[i]? = some d) {nv DZ:List (Str × V)} (hd:H d=some (.dK (sK nv)))
  (hl:DZ.length<=nv.length + 1) (hk:∀ z,z ∈ DZ.map (·.1) ↔ z ∈ nv.map (·.1)\/z=y) (hP:∀ z,z ∈ nv.map (·.1) ↔ P p z) (hln:nv.length<=n):NB (upd H d (.dK (sK DZ))) B ps ds (fun a b=>P a b\/(a=p/\b=y)) (n + 1):=by
 have dm:d ∈ ds:=ZE e2;refine ⟨by rw [Ae (fun z=>h.nB (by rw [z]; exact dm))]; exact h.top,h.len,h.nd,h.nB,fun j q c f1 f2=>?_⟩;by_cases z:c=d
 ·subst z;have ij:i=j:=Hy h.nd e2 f2;subst ij;rw [e1] at f1; cases f1;refine ⟨DZ,Ab,by lia,fun z=>?_⟩;rw [hk,hP];simp
 ·obtain ⟨nw,b1,b2,b3⟩:=h.inner j q c f1 f2;refine ⟨nw,by rw [Ae z]; exact b1,by lia,fun y'=>?_⟩;rw [b3];have:q ≠ p:=by
   rintro rfl;have ij:=Hy hn e1 f1;subst ij;rw [e2] at f2; cases f2;exact z rfl
  simp [this]
theorem NB.mono {H:Hp} {B:Addr} {ps:List Str} {ds:List Addr} {P P':Str->Str->Prop} {n m:Nat} (h:NB H B ps ds P n) (hP:∀ a b,P a b ↔ P' a b) (hn:n<=m):NB H B ps ds P' m:=
 ⟨h.top,h.len,h.nd,h.nB,fun i p d e1 e2=>let ⟨nv,a1,a2,a3⟩:=h.inner i p d e1 e2; ⟨nv,a1,by lia,fun y=>(a3 y).trans (hP p y)⟩⟩
structure J6 (H:Hp) (q:Addr) (ps:List Str) (ws:List AJ) (r:Str):Prop where
 web:Web H q ps ws
 nd:ps.Nodup
 l30:ps.length<=30
 l64:ws.length < 64
 ends:∀ u ∈ ws,u.1 ∈ ps/\u.2.1 ∈ ps
 first:ps[0]? = some r
 con:∀ S:Str->Prop,S r->(∀ x y,LG ws x y->S x->S y)->∀ x ∈ ps,S x
theorem J6.same {H H':Hp} {q:Addr} {ps:List Str} {ws:List AJ} {r:Str} (h:J6 H q ps ws r) (s:Aq H H'):J6 H' q ps ws r:=
 ⟨h.web.same fun b xs z=>s _ _ z,h.nd,h.l30,h.l64,h.ends,h.first,h.con⟩
theorem Sg {ws:List AJ} {i:Nat} {u:AJ} (h:ws[i]? = some u) (a b:Str):LG (ws.take (i + 1)) a b ↔ (LG (ws.take i) a b\/(a=u.1/\b=u.2.1))\/(a=u.2.1/\b=u.1):=by
 rw [ZR,h];constructor
 ·rintro ⟨v,hv,e⟩;rcases af.mp hv with hv | hv
  ·exact .inl (.inl ⟨v,hv,e⟩)
  ·have:v=u:=by simpa using hv
   subst this;rcases e with ⟨e1,e2⟩ | ⟨e1,e2⟩
   ·exact .inl (.inr ⟨e1.symm,e2.symm⟩)
   ·exact .inr ⟨e2.symm,e1.symm⟩
 ·rintro ((⟨v,hv,e⟩ | ⟨rfl,rfl⟩) | ⟨rfl,rfl⟩)
  ·exact ⟨v,aT _ hv,e⟩
  ·exact ⟨u,ZT _ (by simp),.inl ⟨rfl,rfl⟩⟩
  ·exact ⟨u,ZT _ (by simp),.inr ⟨rfl,rfl⟩⟩
structure NR (H:Hp) (B:Addr) (ps:List Str) (ds:List Addr) (P:Str->Str->Prop):Prop where
 top:H B=some (.dK (sK (OC ps ds)))
 len:ds.length=ps.length
 nd:ds.Nodup
 nB:B ∉ ds
 inner:∀ (i:Nat) (p:Str) (d:Addr),ps[i]? = some p->ds[i]? = some d->∃ nv:List (Str × V),Rd H d (.dK (sK nv))/\∀ y,y ∈ nv.map (·.1) ↔ P p y
theorem NB.r {H:Hp} {B:Addr} {ps:List Str} {ds:List Addr} {P:Str->Str->Prop} {n:Nat} (h:NB H B ps ds P n):NR H B ps ds P:=
 ⟨h.top,h.len,h.nd,h.nB,fun i p d e1 e2=>let ⟨nv,a1,_,a3⟩:=h.inner i p d e1 e2; ⟨nv,.inl a1,a3⟩⟩
theorem NR.get {H:Hp} {B:Addr} {ps:List Str} {ds:List Addr} {P:Str->Str->Prop} (h:NR H B ps ds P) (hn:ps.Nodup) {p:Str} (hp:p ∈ ps) :
  ∃ (i:Nat) (d:Addr) (nv:List (Str × V)),ps[i]? = some p/\ds[i]? = some d/\B9 (sK (OC ps ds)) (Sum.inr p:Bj)=some (.ref d)/\Rd H d (.dK (sK nv))/\∀ y,y ∈ nv.map (·.1) ↔ P p y:=by
 obtain ⟨i,hi,e⟩:=ab hp;have e1:ps[i]? = some p:=by rw [Z9 hi,e]
 have MX:i < ds.length:=by rw [h.len]; exact hi
 have e2:ds[i]? = some ds[i]:=Z9 MX;obtain ⟨nv,a1,a3⟩:=h.inner i p _ e1 e2;refine ⟨i,_,nv,e1,e2,DE ?_ (OB e1 e2),a1,a3⟩;rw [Ja (by rw [h.len]; exact ZJ _)];exact hn
theorem Rd.ne {H:Hp} {a b:Addr} {u o:HO} (h:Rd H a u) (hb:a ≠ b):Rd (upd H b o) a u:=by
 rcases h with h | ⟨ob,h⟩
 ·exact .inl (by rw [Ae hb]; exact h)
 ·exact .inr ⟨ob,by rw [Ae hb]; exact h⟩
theorem Rd.fz {H H':Hp} {a b:Addr} {u:HO} {kvs:List (Bj × V)} {o:Obj} (h:Rd H a u) (f:Ez H b kvs o H') (hb:a ≠ b):Rd H' a u:=by
 rcases h with h | ⟨ob,h⟩
 ·exact .inl (by rw [f.ne hb]; exact h)
 ·exact .inr ⟨ob,by rw [f.ne hb]; exact h⟩
theorem NR.other {H:Hp} {B a:Addr} {ps:List Str} {ds:List Addr} {P:Str->Str->Prop} {o:HO} (h:NR H B ps ds P) (ha:a ∉ ds) (hB:a ≠ B):NR (upd H a o) B ps ds P:=
 ⟨by rw [Ae (Ne.symm hB)]; exact h.top,h.len,h.nd,h.nB,fun i p d e1 e2=>let ⟨nv,a1,a3⟩:=h.inner i p d e1 e2
  ⟨nv,a1.ne (fun z=>ha (by rw [<-z]; exact ZE e2)),a3⟩⟩
theorem NR.freeze {H H':Hp} {B:Addr} {ps:List Str} {ds:List Addr} {P:Str->Str->Prop} (h:NR H B ps ds P) {i:Nat} {p:Str} {d:Addr} (e1:ps[i]? = some p) (e2:ds[i]? = some d) {nv:List (Str × V)} {o:Obj} (f:Ez H d (sK nv) o H') (hP:∀ y,y ∈ nv.map (·.1) ↔ P p y):NR H' B ps ds P:=by
 have dm:d ∈ ds:=ZE e2;refine ⟨by rw [f.ne (fun z=>h.nB (by rw [z]; exact dm))]; exact h.top,h.len,h.nd,h.nB,fun j q c f1 f2=>?_⟩;by_cases z:c=d
 ·subst z;have ij:i=j:=Hy h.nd e2 f2;subst ij;rw [e1] at f1; cases f1;exact ⟨nv,.inr ⟨o,f.at⟩,hP⟩
 ·obtain ⟨nw,b1,b3⟩:=h.inner j q c f1 f2;exact ⟨nw,b1.fz f z,b3⟩
theorem SF {nv DZ:List (Str × V)} {y:Str} {v:V} (e:BM (sK nv) (Sum.inr y:Bj) v=sK DZ) (hn:(nv.map (·.1)).Nodup):(DZ.map (·.1)).Nodup:=by
 have inj:∀ {a b:List (Str × V)},(sK a).map (·.1)=(sK b).map (·.1)->a.map (·.1)=b.map (·.1):=fun {a b} h=>by
  rw [Lf,Lf] at h;exact eU (fun x y z=>Sum.inr.inj z) |>.mp h
 by_cases h:y ∈ nv.map (·.1)
 ·have e2:(BM (sK nv) (Sum.inr y:Bj) v).map (·.1)=(sK nv).map (·.1):=by
   unfold BM;have:((sK nv).any fun kv=>decide (kv.1=(Sum.inr y:Bj)))=true:=by rw [Co,Hq,decide_eq_true h]
   rw [if_pos this,aL];refine bF fun q _=>?_
   by_cases e:q.1=(Sum.inr y:Bj) <;> simp [e]
  rw [e] at e2;rw [inj e2];exact hn
 ·rw [DI h] at e;have e2:(nv ++ [(y,v)]).map (·.1)=DZ.map (·.1):=inj (by rw [e]);rw [<-e2,ZG];refine ba.mpr ⟨hn,aM.mpr ⟨by simp,.nil⟩,fun a ha b hb=>?_⟩;have e3:b=y:=by simpa using hb
  subst e3;rintro rfl;exact h ha
section
variable {ws:List AJ} {r:Str} {bs:List (Str × Option Str)} {wk:List (Str × List Str)} {ps:List Str}
end
theorem G6 {α:Type} {l:List (Str × α)} (h:(l.map (·.1)).Nodup) (f:Str × α->Bool):((l.filter f).map (·.1)).Nodup:=by
 have s:List.Sublist ((l.filter f).map (·.1)) (l.map (·.1)):=List.Sublist.map _ bX;exact s.nodup h
theorem Au.thaw {X:Cx} {pins:List (Addr × Obj)} {σ:St} {H:Hp} {s:Shared} {a:Addr} {o:Obj} {u:HO} (I:Au X pins σ H s) (e:H a=some (.frz o u)) (h0:∀ ob w,X.H₀ a ≠ some (.frz ob w)) (hu:u ≠ .own a/\∀ xs,u ≠ .tup xs):Au X pins σ (upd H a u) s:=by
 obtain ⟨ho,hok⟩:=(show AV X.prog X.w H s.heap a (.frz o u) from I.hok a _ e)
 have nn:∀ b,H b=none->b ≠ a:=fun b hb z=>by rw [z,e] at hb; cases hb
 have own:∀ b y,H b=some (.own y)->b ≠ a:=fun b y hb z=>by rw [z,e] at hb; cases hb
 have tup:∀ b xs,H b=some (.tup xs)->b ≠ a:=fun b xs hb z=>by rw [z,e] at hb; cases hb
 refine ⟨I.ok,I.os,I.bare,⟨I.base.keep,I.base.slot,fun b ob q n hx=>?_,I.base.there,fun b xs q=>?_,fun b ob w q=>?_,fun b ps q=>?_⟩,I.loc,I.cell,?_,fun x c q=>?_,fun p hp=>?_,fun b w q=>?_,I.len⟩
 ·have z:=I.base.free b ob q n hx;rw [Ae (nn b z)]; exact z
 ·have z:=I.base.tups b xs q;rw [Ae (tup b xs z)]; exact z
 ·have z:=I.base.frzs b ob w q;by_cases hb:b=a
  ·subst hb; exact absurd q (h0 ob w)
  ·rw [Ae hb]; exact z
 ·obtain ⟨more,z⟩:=I.base.tbls b ps q;exists more;rw [Ae (fun hb=>by rw [hb,e] at z; cases z)]; exact z
 ·rw [Ae (nn _ I.free)]; exact I.free
 ·rw [Ae (nn _ (I.freeC x c q))]; exact I.freeC x c q
 ·obtain ⟨z1,z2,z3⟩:=I.pin p hp;exact ⟨z1,by rw [Ae (nn _ z2)]; exact z2,z3⟩
 ·by_cases hb:b=a
  ·subst hb;rw [Ab] at q;cases q
   exact hok.stay (fun c v _ z=>z) (fun c z=>by rw [Ae (own c _ z)]; exact z) fun c xs z=>by rw [Ae (tup c xs z)]; exact z
  ·rw [Ae hb] at q;exact (I.hok b w q).stay (fun c v _ z=>z) (fun c z=>by rw [Ae (own c _ z)]; exact z) fun c xs z=>by rw [Ae (tup c xs z)]; exact z
theorem SO {X:Cx} {e:Expr} {t:TE} (h:PE X e t):PE X e (fun σ H Q=>t σ H fun x H1=>∃ a o kvs,H1 a=some (.frz o (.dK kvs))/\(∀ ob w,X.H₀ a ≠ some (.frz ob w))/\Q x (upd H1 a (.dK kvs))):=by
 intro pins s σ H Q I q;refine B0 (h pins s σ H _ I q) fun v s1 ⟨x,H1,I1,r1,a,o,kvs,e1,h0,q1⟩=>?_
 exact ⟨x,_,I1.thaw e1 h0 ⟨(by intro z; cases z),(by intro xs z; cases z)⟩,r1,q1⟩
def E8 (A:Around) (s:Shared) (x y:Value) (b:Bool):Prop:=∀ (prog:Program) (w:World) (E Q:Value->Shared->Prop),Q (.bool b) s->wpAny (model prog w) A (richCompare .Lt x y) Q E s
theorem E8.int (A:Around) (s:Shared) (a:Int) (t:Tok) (c:Int) (u:Tok):E8 A s (.int a t) (.int c u) (decide (a < c)):=fun prog w E Q h=>
 (PyProof.Rows.lt_int h:wpAny (model prog w) A (compareOp .Lt (.int a t) (.int c u)) Q E s)
theorem E8.str (A:Around) (s:Shared) (a:Str) (t:Tok) (c:Str) (u:Tok):E8 A s (.str a t) (.str c u) (decide (a.cps.toList < c.cps.toList)):=fun prog w E Q h=>
 (PySem.P.lt_str h:wpAny (model prog w) A (compareOp .Lt (.str a t) (.str c u)) Q E s)
section
open PySem.SeqAt
open PySem.AutoSeq1 (wpAny_loadPart')
open PySem.MeetsSeq PySem.MeetsSeq2 PySem.MeetsSeq3
theorem Pf (l b:Addr) (x1 x2 y1 y2:Value) (n n2:Nat) (dd Ss:Option Addr) (sl TZ:Array (Option Value)) (e1 b1 e2 b2:Bool) :
  Meets (Builtin.«tuple.__lt__» ⟨[.ref l,.ref b],[]⟩)
   (fun A R s=>s.heap.get? l=some { cls:=.type "tuple",dict:=dd,data:=.seq #[x1,x2] n,slots:=sl }/\s.heap.get? b=some { cls:=.type "tuple",dict:=Ss,data:=.seq #[y1,y2] n2,slots:=TZ } /\
    EqAt A.in1 s x1 y1 e1/\(e1=false->E8 A.in1 s x1 y1 b1)/\(e1=true->EqAt A.in1 s x2 y2 e2/\(e2=false->E8 A.in1 s x2 y2 b2)) /\
    R (.ok (.ret (.bool (if e1=true then (if e2=true then false else b2) else b1)))) s):=
 .of_wp fun prog w A R s h=>by
  obtain ⟨hp,g,d,tk,os⟩:=s; obtain ⟨hl,hb,VZ,JS,h2,h⟩:=h;have f2:=AutoSeq1.sub_tuple_tuple;wp_walk using wpAny_loadPart' hl,wpAny_loadPart' hb,wpAny_forIn_list _ (fun rest b s'=>b.1=none/\s'=⟨hp,g,d,tk,os⟩/\(rest=[(x1,y1),(x2,y2)]\/(rest=[(x2,y2)]/\e1=true)\/(rest=[]/\e1=true/\e2=true))) _
  case turn=>
   rintro ⟨y,x⟩ rest b s' ⟨Ip,rfl,hz | ⟨hz,h1⟩ | ⟨hz,_⟩⟩
   ·cases hz
    refine wpAny_bind (VZ prog w _ _ ?_);cases ee:e1 with
    | true=>
     wp_walk
     exact ⟨rfl,rfl,.inr (.inl ⟨rfl,rfl⟩)⟩
    | false=>
     rw [ee,if_neg ZV] at h;have hri:=JS ee prog w;wp_walk using hri;exact ⟨_,rfl,by simpa using h⟩
   ·cases hz
    obtain ⟨Zk,Io⟩:=h2 h1;rw [if_pos h1] at h;refine wpAny_bind (Zk prog w _ _ ?_);cases ee:e2 with
    | true=>
     wp_walk
     exact ⟨rfl,rfl,.inr (.inr ⟨rfl,h1,rfl⟩)⟩
    | false=>
     rw [ee,if_neg ZV] at h;have hri:=Io ee prog w;wp_walk using hri;exact ⟨_,rfl,by simpa using h⟩
   ·cases hz
  case fin=>
   rintro ⟨TB,b2'⟩ s' ⟨Ip,rfl,hz | ⟨hz,h1⟩ | ⟨hz,h1,Zy⟩⟩
   ·cases hz
   ·cases hz
   ·simp only at Ip;subst Ip;rw [if_pos h1,if_pos Zy] at h;wp_walk;exact ⟨_,rfl,by simpa [Builtin.Tuple.tupleCompareSizes] using h⟩
  case h=>
   exact ⟨rfl,rfl,.inl rfl⟩
end
theorem E8.tup2 {A:Around} {s:Shared} {l b:Addr} {x1 x2 y1 y2:Value} {e1 b1 e2 b2:Bool} (hl:IsTup s.heap l #[x1,x2]) (hb:IsTup s.heap b #[y1,y2]) (hu:A.units < cLine) (h1:SeqAt.EqAt A.in1 s x1 y1 e1) (l1:e1=false->E8 A.in1 s x1 y1 b1)
  (h2:e1=true->SeqAt.EqAt A.in1 s x2 y2 e2/\(e2=false->E8 A.in1 s x2 y2 b2)):E8 A s (.ref l) (.ref b) (if e1=true then (if e2=true then false else b2) else b1):=fun prog w E Q h=>by
 obtain ⟨⟨cls,dd,data,sl⟩,ho,hc,n,hd⟩:=id hl;obtain ⟨⟨Xp,Ss,data2,TZ⟩,Sn,So,n2,hd2⟩:=id hb;simp only at hc hd So hd2;subst hc hd So hd2;exact richCompare_meets_room (op:=.Lt) ⟨_,ho,rfl⟩ ⟨_,Sn,rfl⟩ PySem.F.slot_tuple_lt PySem.F.entry_tuple_lt (PySem.F.args_tuple_lt_2 _ _) (Pf l b x1 x2 y1 y2 n n2 dd Ss sl TZ e1 b1 e2 b2)
  ⟨ho,Sn,h1,l1,h2,show Value.bool _ ≠ Value.notImplemented/\Q (.bool _) s from ⟨(fun x=>nomatch x),h⟩⟩ hu
def Qb (p q:Int × Str):Bool:=if (p.1 == q.1)=true then (if (p.2 == q.2)=true then false else decide (p.2.cps.toList < q.2.cps.toList)) else decide (p.1 < q.1)
def Dz (h:Heap) (v:Value) (p:Int × Str):Prop:=∃ a t u,v=.ref a/\IsTup h a #[.int p.1 t,.str p.2 u]
theorem Dz.keep {h h':Heap} {v:Value} {p:Int × Str} (x:Dz h v p) (k:∀ b o,h.get? b=some o->h'.get? b=some o):Dz h' v p:=by
 obtain ⟨a,t,u,rfl,o,ho,r⟩:=x;exact ⟨a,t,u,rfl,o,k _ _ ho,r⟩
theorem Lu {A:Around} {s:Shared} {v w:Value} {p q:Int × Str} (hv:Dz s.heap v p) (hw:Dz s.heap w q) (hu:A.units < cLine):E8 A s v w (Qb p q):=by
 obtain ⟨a,t,u,rfl,hl⟩:=hv;obtain ⟨b,t',u',rfl,hb⟩:=hw;exact E8.tup2 hl hb hu (SeqAt.EqAt.int_int _ _ _ _) (fun _=>E8.int _ _ _ _ _ _) fun _=>⟨SeqAt.EqAt.str_str _ _ _ _,fun _=>E8.str _ _ _ _ _ _⟩
theorem Tv {A:Around} {s:Shared} {v w:Value} {p q:Int × Str} (hv:Dz s.heap v p) (hw:Dz s.heap w q) (hu:A.units < cLine):SeqAt.EqAt A s v w (decide (p=q)):=by
 obtain ⟨a,t,u,rfl,hl⟩:=hv;obtain ⟨b,t',u',rfl,hb⟩:=hw;by_cases hab:a=b
 ·subst hab;have e:p=q:=by
   obtain ⟨o,ho,hc,n,hd⟩:=hl;obtain ⟨o',Im,K0,n',Lz⟩:=hb;rw [ho] at Im;cases Im
   rw [hd] at Lz;injection Lz with e1 e2;have e3:=congrArg cA e1;simp only [cQ.injEq,Value.int.injEq,Value.str.injEq] at e3;exact Prod.ext e3.1.1 e3.2.1.1
  rw [decide_eq_true e];intro prog w E Q h;unfold eqBool;refine wpAny_holding ?_;exact wpAny_ite_split (fun _=>wpAny_bind (wpAny_rule (wpAny_pure h))) (fun hn=>absurd (by simp) hn)
 ·have key:=SeqAt.RcAt.tuples (A:=A) (s:=s) (e:=fun j=>if j=0 then p.1 == q.1 else p.2 == q.2) (show s.heap.IsTuple a #[.int p.1 t,.str p.2 u] from hl) (show s.heap.IsTuple b #[.int q.1 t',.str q.2 u'] from hb) hu (fun j h1 h2=>by
   match j,h1,h2 with
   | 0,_,_=>exact SeqAt.EqAt.int_int _ _ _ _
   | 1,_,_=>exact SeqAt.EqAt.str_str _ _ _ _
   | j + 2,h1,_=>exact absurd (show j + 2 < 2 from h1) (by lia))
  have e:((aP (min (#[Value.int p.1 t,.str p.2 u]:Array Value).size (#[Value.int q.1 t',.str q.2 u']:Array Value).size)).all (fun j=>if j=0 then p.1 == q.1 else p.2 == q.2) && (#[Value.int p.1 t,.str p.2 u]:Array Value).size == (#[Value.int q.1 t',.str q.2 u']:Array Value).size)=decide (p=q):=by
   show ((aP 2).all (fun j=>if j=0 then p.1 == q.1 else p.2 == q.2) && (2 == 2))=decide (p=q)
   have:(aP 2)=[0,1]:=rfl;rw [this];simp only [cV,List.all_nil,fZ,beq_self_eq_true];rw [aZ];simp [Prod.ext_iff]
  rw [e] at key;exact SeqAt.EqAt.of_refs hab key
def J9 (h:Heap) (v:Value) (k:(Int × Str) × Str):Prop:=∃ a l u,v=.ref a/\IsTup h a #[.ref l,.str k.2 u]/\Dz h (.ref l) k.1
theorem J9.keep {h h':Heap} {v:Value} {p:(Int × Str) × Str} (x:J9 h v p) (k:∀ b o,h.get? b=some o->h'.get? b=some o):J9 h' v p:=by
 obtain ⟨a,l,u,rfl,⟨o,ho,r⟩,z⟩:=x;exact ⟨a,l,u,rfl,⟨o,k _ _ ho,r⟩,z.keep k⟩
def Uj (p q:(Int × Str) × Str):Bool:=if decide (p.1=q.1)=true then (if (p.2 == q.2)=true then false else decide (p.2.cps.toList < q.2.cps.toList)) else Qb p.1 q.1
theorem Vq {A:Around} {s:Shared} {v w:Value} {p q:(Int × Str) × Str} (hv:J9 s.heap v p) (hw:J9 s.heap w q) (hu:A.units + 1 < cLine):E8 A s v w (Uj p q):=by
 obtain ⟨a,l,u,rfl,hl,hp⟩:=hv;obtain ⟨b,l',u',rfl,hb,hq⟩:=hw;exact E8.tup2 hl hb (by lia) (Tv hp hq (by rw [PySem.Around.in1_units]; exact hu)) (fun _=>Lu hp hq (by rw [PySem.Around.in1_units]; exact hu)) fun _=>⟨SeqAt.EqAt.str_str _ _ _ _,fun _=>E8.str _ _ _ _ _ _⟩
def TQ (prog:Program) (w:World) (A:Around) (g0:Heap) (P:Nat->Value->Prop) (bt:Nat->Nat->Bool):Prop:=
 ∀ i j vi vj (s:Shared) (Q:Value->Shared->Prop) (E:Value->Shared->Prop),(∀ b o,g0.get? b=some o->s.heap.get? b=some o)->P i vi->P j vj->Q (.bool (bt i j)) s->wpAny (model prog w) A (richCompare .Lt vi vj) Q E s
section
variable {prog:Program} {w:World} {A:Around} {R:Result->Shared->Prop} {I:Addr} {fp wr:List Addr} {n:Nat} {P:Nat->Value->Prop} {St:Nat->Heap->Prop} {g0:Heap}
theorem PY (W:Walks prog w A.in1 I fp wr n P St) (bt:Nat->Nat->Bool) (cm:TQ prog w A.in1 g0 P bt) (S:Addr) (nS:S ∉ fp) (gw:∀ b o,g0.get? b=some o->b ∉ wr/\b ≠ S) :
  ∀ (m j:Nat) (s:Shared) (bv:Value) (c:Nat),n - (j + 1)=m->j + 1<=n->St (j + 1) s.heap->P (argBest bt j) bv->(∀ b o,g0.get? b=some o->s.heap.get? b=some o) ->
  s.heap.get? S=some { cls:=.type "list",dict:=none,data:=.seq #[bv,bv] c,slots:=#[] } ->
  (∀ v h2 tk,P (argBest bt (n - 1)) v->(∀ b o,b ∉ wr->b ≠ S->s.heap.get? b=some o->h2.get? b=some o)->R (.ok (.ret v)) { s with heap:=h2,toks:=tk }) ->
  codeAny (model prog w) A (.builtin "min.loop" ⟨[.ref I,.none,.ref S],[]⟩) R s:=by
 have Sw:S ∉ wr:=fun z=>nS (W.sub _ z)
 have nm:(toString "min" ++ toString ".loop":String)="min.loop":=by decide
 intro m;induction m with
 | zero=>
  intro j s bv c hm hj st pb g1 aS r;have jn:j + 1=n:=by lia
  refine codeAny_builtin F.entry_min_loop ?_;rw [Around.under_plainId F.plain_min_loop _];refine wpAny_bind (m:=seqItems? (.ref S)) (wpAny_seqItems aS rfl ?_);refine wpAny_bind (wpAny_tryCatch (W.done s _ _ (jn ▸ st) fun h2 tk k2=>?_));have U2:=k2 S _ Sw aS;refine wpAny_bind (m:=updateSeq S (fun _=>#[])) ?_;refine wpAny_updateSeq U2 rfl (wpAny_bind (wpAny_letGo (wpAny_pure ?_)));exact r bv _ tk (by rw [<-jn]; exact pb) fun b o bw bS e=>(ax _ _ (Ne.symm bS)).trans (k2 b o bw e)
 | succ m ih=>
  intro j s bv c hm hj st pb g1 aS r;have lt:j + 1 < n:=by lia
  refine codeAny_builtin F.entry_min_loop ?_;rw [Around.under_plainId F.plain_min_loop _];refine wpAny_bind (m:=seqItems? (.ref S)) (wpAny_seqItems aS rfl ?_);refine wpAny_bind (wpAny_tryCatch (W.item (j + 1) s _ _ lt st fun v h2 tk pv Gx k2=>?_));have U2:=k2 S _ Sw aS;have g2:∀ b o,g0.get? b=some o->h2.get? b=some o:=fun b o e=>k2 b o (gw b o e).1 (g1 b o e)
  show wpAny _ A.in1 (tryCatch (holding [v,v] (richCompare .Lt v bv >>= _)) _ >>= _) _ _ _
  refine wpAny_bind (wpAny_tryCatch (wpAny_holding (wpAny_bind (cm (j + 1) (argBest bt j) v bv _ _ _ g2 pv pb ?_))));refine wpAny_bind (wpAny_holding (wpAny_truthy_bool ?_));refine wpAny_bind (wpAny_letGo (wpAny_pure ?_));cases hb:bt (j + 1) (argBest bt j) with
  | true=>
   simp only [if_true];refine wpAny_bind ?_;refine wpAny_updateSeq U2 rfl (wpAny_bind (wpAny_letGo ?_));rw [nm];refine wpAny_pure ⟨plainId_quiet F.plain_min_loop _,ih (j + 1) _ v _ (by lia) lt (W.frame _ _ _ Gx fun b bf o e=>?_) (by simp only [argBest,hb,if_true]; exact pv) (fun b o e=>?_) (aE _ U2 rfl) fun v' h3 UI Wt k3=>?_⟩
   ·exact (ax _ _ (fun z:S=b=>nS (by rw [z]; exact bf))).trans e
   ·exact (ax _ _ (Ne.symm (gw b o e).2)).trans (g2 b o e)
   ·exact r v' h3 UI Wt fun b o bw bS e=>k3 b o bw bS ((ax _ _ (Ne.symm bS)).trans (k2 b o bw e))
  | false=>
   simp only [ai,if_false];refine wpAny_bind (wpAny_letGo ?_);rw [nm];refine wpAny_pure ⟨plainId_quiet F.plain_min_loop _,ih (j + 1) _ bv c (by lia) lt Gx (by simp only [argBest,hb,ai,if_false]; exact pb) g2 U2 fun v' h3 UI Wt k3=>?_⟩;exact r v' h3 UI Wt fun b o bw bS e=>k3 b o bw bS (k2 b o bw e)
theorem Jc (W:Walks prog w A.in1 I fp wr n P St) (bt:Nat->Nat->Bool) (cm:TQ prog w A.in1 g0 P bt) (S:Addr) (nS:S ∉ fp) (gw:∀ b o,g0.get? b=some o->b ∉ wr/\b ≠ S) (hn:0 < n) {s:Shared} {c:Nat} (st:St 0 s.heap)
  (g1:∀ b o,g0.get? b=some o->s.heap.get? b=some o) (aS:s.heap.get? S=some { cls:=.type "list",dict:=none,data:=.seq #[] c,slots:=#[] })
  (r:∀ v h2 tk,P (argBest bt (n - 1)) v->(∀ b o,b ∉ wr->b ≠ S->s.heap.get? b=some o->h2.get? b=some o)->R (.ok (.ret v)) { s with heap:=h2,toks:=tk }) :
  codeAny (model prog w) A (.builtin "min.loop" ⟨[.ref I,.none,.ref S],[]⟩) R s:=by
 have Sw:S ∉ wr:=fun z=>nS (W.sub _ z)
 have nm:(toString "min" ++ toString ".loop":String)="min.loop":=by decide
 refine codeAny_builtin F.entry_min_loop ?_;rw [Around.under_plainId F.plain_min_loop _];refine wpAny_bind (m:=seqItems? (.ref S)) (wpAny_seqItems aS rfl ?_);refine wpAny_bind (wpAny_tryCatch (W.item 0 s _ _ hn st fun v h2 tk pv Gx k2=>?_));have U2:=k2 S _ Sw aS;refine wpAny_bind (m:=updateSeq S (fun _=>#[v,v])) ?_;refine wpAny_updateSeq U2 rfl ?_;rw [nm];refine wpAny_pure ⟨plainId_quiet F.plain_min_loop _,PY W bt cm S nS gw _ 0 _ v _ rfl hn (W.frame _ _ _ Gx fun b bf o e=>?_) pv (fun b o e=>?_) (aE _ U2 rfl) fun v' h3 UI Wt k3=>?_⟩
 ·exact (ax _ _ (fun z:S=b=>nS (by rw [z]; exact bf))).trans e
 ·exact (ax _ _ (Ne.symm (gw b o e).2)).trans (k2 b o (gw b o e).1 (g1 b o e))
 ·exact r v' h3 UI Wt fun b o bw bS e=>k3 b o bw bS ((ax _ _ (Ne.symm bS)).trans (k2 b o bw e))
end
section
variable {prog:Program} {w:World} {A:Around} {E:Value->Shared->Prop} {s:Shared}
theorem G8 {l:Addr} {vs:List Value} {bt:Nat->Nat->Bool} {Q:Value->Shared->Prop} (hh:A.handled=none) (hl:s.heap.IsList l vs.toArray) (hn:0 < vs.length) (cm:TQ prog w A.in1 s.heap (fun i v=>vs[i]? = some v) bt)
  (h:∀ v h2 tk,vs[argBest bt (vs.length - 1)]? = some v->(∀ b o,s.heap.get? b=some o->h2.get? b=some o)->Q v { s with heap:=h2,toks:=tk }):wpAny (model prog w) A (call (.builtin "min") [.ref l]) Q E s:=by
 have nm:(toString "min" ++ toString ".loop":String)="min.loop":=by decide
 have BD:l < s.heap.objs.size:=by obtain ⟨o,ho,_⟩:=id hl; exact ZK ho
 refine call_function_tree F.kind_min F.plain_min F.entry_min (F.args_min1 _) ?_;refine wpAny_bind (wpAny_of_eq (show Builtin.Builtins.bindParams "min" ["key","default"] 0 ⟨[],[]⟩=pure [none,none] from rfl) ?_);refine wpAny_bind (wpAny_pure ?_);refine wpAny_bind (wpAny_pyIter_list hl ?_);refine wpAny_bind (wpAny_newObj_type ?_);rw [nm];have sz:(s.heap.push { cls:=.type "list_iterator",data:=.fields #[.ref l,.int 0 0] }).objs.size=s.heap.objs.size + 1:=aA ..;have W:=(Walks.list (prog:=prog) (w:=w) (A:=A.in1) hh s.heap.objs.size l (ZQ BD) vs.toArray).weaken (P':=fun i v=>vs[i]? = some v) (fun i v e=>by simpa using e);refine wpAny_pure ⟨plainId_quiet F.plain_min_loop _,Jc (g0:=s.heap) W bt cm (s.heap.push { cls:=.type "list_iterator",data:=.fields #[.ref l,.int 0 0] }).objs.size (fun hm=>?_) (fun b o e=>⟨fun hm=>?_,fun z=>?_⟩) (by simpa using hn) ?_ (fun b o e=>ZC _ (ZC _ e)) (ZM _ rfl) fun v h2 tk pv k2=>?_⟩
 ·rw [sz] at hm;rcases ZF.mp hm with z | hm
  ·exact absurd z (Nat.succ_ne_self _)
  ·rcases ZF.mp hm with z | hm
   ·exact absurd z (aW (au BD))
   ·cases hm
 ·have:=ZK e;rw [aa.mp hm] at this;exact absurd this (aO _)
 ·have:=ZK e;rw [z,sz] at this;exact absurd this (cH.mpr (ar _))
 ·exact ⟨⟨_,ZC _ (ZM _ rfl),rfl,rfl⟩,(hl.push _).push _⟩
 ·refine h v h2 tk (by simpa using pv) fun b o e=>k2 b o (fun hm=>?_) (fun z=>?_) (ZC _ (ZC _ e))
  ·have:=ZK e;rw [aa.mp hm] at this;exact absurd this (aO _)
  ·have:=ZK e;rw [z,sz] at this;exact absurd this (cH.mpr (ar _))
end
section
variable {prog:Program} {w:World} {A:Around} {E:Value->Shared->Prop} {s:Shared}
theorem RB {a b:Value} {bt:Nat->Nat->Bool} {Q:Value->Shared->Prop} (hh:A.handled=none) (cm:TQ prog w A.in1 s.heap (fun i v=>[a,b][i]? = some v) bt)
  (h:∀ v h2 tk,[a,b][argBest bt 1]? = some v->(∀ c o,s.heap.get? c=some o->h2.get? c=some o)->Q v { s with heap:=h2,toks:=tk }):wpAny (model prog w) A (call (.builtin "min") [a,b]) Q E s:=by
 have nm:(toString "min" ++ toString ".loop":String)="min.loop":=by decide
 have hT:(s.heap.push { cls:=.type "tuple",data:=.seq #[a,b] }).IsTuple s.heap.objs.size #[a,b]:=⟨_,ZM _ rfl,rfl,0,rfl⟩
 refine call_function_tree F.kind_min F.plain_min F.entry_min (F.args_min2 _ _) ?_;refine wpAny_bind (wpAny_of_eq (show Builtin.Builtins.bindParams "min" ["key","default"] 0 ⟨[],[]⟩=pure [none,none] from rfl) ?_);show wpAny _ A.in1 (newTuple [a,b] >>= _) _ _ s
 refine wpAny_bind (wpAny_newObj_type ?_);refine wpAny_bind (wpAny_pyIter_tuple hT ?_);refine wpAny_bind (wpAny_newObj_type ?_);rw [nm];have s1:(s.heap.push { cls:=.type "tuple",data:=.seq #[a,b] }).objs.size=s.heap.objs.size + 1:=aA ..;have s2:((s.heap.push { cls:=.type "tuple",data:=.seq #[a,b] }).push { cls:=.type "tuple_iterator",data:=.fields #[.ref s.heap.objs.size,.int 0 0] }).objs.size=s.heap.objs.size + 2:=by rw [aA,s1]
 have W:=(Walks.tuple (prog:=prog) (w:=w) (A:=A.in1) hh (s.heap.push { cls:=.type "tuple",data:=.seq #[a,b] }).objs.size s.heap.objs.size (by rw [s1]; exact ZQ (aH _)) #[a,b]).weaken (P':=fun i v=>[a,b][i]? = some v) (fun i v e=>by simpa using e);refine wpAny_pure ⟨plainId_quiet F.plain_min_loop _,Jc (g0:=s.heap) W bt cm ((s.heap.push { cls:=.type "tuple",data:=.seq #[a,b] }).push { cls:=.type "tuple_iterator",data:=.fields #[.ref s.heap.objs.size,.int 0 0] }).objs.size (fun hm=>?_) (fun b o e=>⟨fun hm=>?_,fun z=>?_⟩) (by simp) ?_ (fun b o e=>ZC _ (ZC _ (ZC _ e))) (ZM _ rfl) fun v h2 tk pv k2=>?_⟩
 ·rw [s2] at hm;rcases ZF.mp hm with z | hm
  ·rw [s1] at z; exact absurd z (aW (aH _))
  ·rcases ZF.mp hm with z | hm
   ·exact absurd z (aW (au (aH _)))
   ·cases hm
 ·have:=ZK e;rw [aa.mp hm,s1] at this;exact absurd this (cH.mpr (ar _))
 ·have:=ZK e;rw [z,s2] at this;exact absurd this (cH.mpr (aj (ar _) (ar _)))
 ·exact ⟨⟨_,ZC _ (ZM _ rfl),rfl,rfl⟩,(hT.push _).push _⟩
 ·refine h v h2 tk (by simpa using pv) fun b o e=>k2 b o (fun hm=>?_) (fun z=>?_) (ZC _ (ZC _ (ZC _ e)))
  ·have:=ZK e;rw [aa.mp hm,s1] at this;exact absurd this (cH.mpr (ar _))
  ·have:=ZK e;rw [z,s2] at this;exact absurd this (cH.mpr (aj (ar _) (ar _)))
end
theorem J5 (bt:Nat->Nat->Bool) (num:Nat->Int) (h1:∀ i j,bt i j=true->num i<=num j) (h2:∀ i j,bt i j=false->num j<=num i):∀ k,argBest bt k<=k/\∀ j,j<=k->num (argBest bt k)<=num j
 | 0=>⟨ZJ _,fun j hj=>by
  have:j=0:=by lia
  subst this; exact aV _⟩
 | k + 1=>by
  obtain ⟨a1,a2⟩:=J5 bt num h1 h2 k;simp only [argBest];cases hc:bt (k + 1) (argBest bt k) with
  | true=>
   simp only [if_true];refine ⟨ZJ _,fun j hj=>?_⟩;have:=h1 _ _ hc;by_cases OH:j<=k
   ·have:=a2 j OH; lia
   ·have:j=k + 1:=by lia
    subst this; exact aV _
  | false=>
   simp only [ai,if_false];refine ⟨fi a1,fun j hj=>?_⟩;by_cases OH:j<=k
   ·exact a2 j OH
   ·have:j=k + 1:=by lia
    subst this; exact h2 _ _ hc
def J8 (H:Hp) (v:V) (p:Int × Str):Prop:=∃ t,v=.ref t/\H t=some (.tup [.int p.1,.str p.2])
def U8 (H:Hp) (v:V) (k:(Int × Str) × Str):Prop:=∃ t t2,v=.ref t/\H t=some (.tup [.ref t2,.str k.2])/\J8 H (.ref t2) k.1
theorem J8.same {H H':Hp} {v:V} {p:Int × Str} (h:J8 H v p) (s:∀ b xs,H b=some (.tup xs)->H' b=some (.tup xs)):J8 H' v p:=let ⟨t,e,z⟩:=h; ⟨t,e,s _ _ z⟩
theorem U8.same {H H':Hp} {v:V} {p:(Int × Str) × Str} (h:U8 H v p) (s:∀ b xs,H b=some (.tup xs)->H' b=some (.tup xs)):U8 H' v p:=let ⟨t,t2,e,z,q⟩:=h; ⟨t,t2,e,s _ _ z,q.same s⟩
theorem J8.at {X:Cx} {pins:List (Addr × Obj)} {σ:St} {H:Hp} {s:Shared} {v:V} {u:Value} {p:Int × Str} (I:Au X pins σ H s) (r:AM v u) (h:J8 H v p):Dz s.heap u p:=by
 obtain ⟨t,rfl,ht⟩:=h;cases r
 obtain ⟨Av,rv,pl,hz⟩:=I.tuple (Ay.of ht);cases rv with
 | cons a1 b1=>
  cases b1 with
  | cons a2 b2=>
   cases b2
   obtain ⟨t1,rfl⟩:=a1;obtain ⟨t2,rfl⟩:=a2;exact ⟨t,t1,t2,rfl,pl⟩
theorem U8.at {X:Cx} {pins:List (Addr × Obj)} {σ:St} {H:Hp} {s:Shared} {v:V} {u:Value} {k:(Int × Str) × Str} (I:Au X pins σ H s) (r:AM v u) (h:U8 H v k):J9 s.heap u k:=by
 obtain ⟨t,l,rfl,ht,hp⟩:=h;cases r
 obtain ⟨Av,rv,pl,hz⟩:=I.tuple (Ay.of ht);cases rv with
 | cons a1 b1=>
  cases b1 with
  | cons a2 b2=>
   cases b2
   cases a1
   obtain ⟨t2,rfl⟩:=a2;exact ⟨t,l,t2,rfl,pl,hp.at I (show AM (V.ref l) (Value.ref l) from rfl)⟩
def D4 (p q:Int × Str):Prop:=p.1 < q.1\/(p.1=q.1/\¬ q.2.cps.toList < p.2.cps.toList)
theorem D4.refl (p:Int × Str):D4 p p:=.inr ⟨rfl,cK _⟩
theorem D4.trans {p q r:Int × Str} (h1:D4 p q) (h2:D4 q r):D4 p r:=by
 rcases h1 with a | ⟨a,b⟩ <;> rcases h2 with c | ⟨c,d⟩
 ·exact .inl (by lia)
 ·exact .inl (by lia)
 ·exact .inl (by lia)
 ·exact .inr ⟨by lia,bN.mpr (gb (bN.mp b) (bN.mp d))⟩
theorem D4.add {d d' l:Int} {s s':Str} (h:D4 (d,s) (d',s')):D4 (d + l,s) (d' + l,s'):=by
 rcases h with a | ⟨a,b⟩
 ·have a':d < d':=a;exact .inl (show d + l < d' + l by lia)
 ·have a':d=d':=a;exact .inr ⟨show d + l=d' + l by lia,b⟩
theorem D4.up {d d':Int} {s:Str} (h:d<=d'):D4 (d,s) (d',s):=by
 by_cases e:d=d'
 ·exact .inr ⟨e,cK _⟩
 ·exact .inl (show d < d' by lia)
theorem D4.fst {p q:Int × Str} (h:D4 p q):p.1<=q.1:=by
 rcases h with a | ⟨a,_⟩ <;> lia
theorem Lv {p q:Int × Str} (h:Qb p q=true):D4 p q:=by
 unfold Qb at h;by_cases e:(p.1 == q.1)=true
 ·have e':p.1=q.1:=by simpa using e
  rw [if_pos e] at h;by_cases e2:(p.2 == q.2)=true
  ·rw [if_pos e2] at h; cases h
  ·rw [if_neg e2] at h;exact .inr ⟨e',cu (by simpa using h)⟩
 ·rw [if_neg e] at h;exact .inl (by simpa using h)
theorem Lw {p q:Int × Str} (h:Qb p q=false):D4 q p:=by
 unfold Qb at h;by_cases e:(p.1 == q.1)=true
 ·have e':p.1=q.1:=by simpa using e
  rw [if_pos e] at h;by_cases e2:(p.2 == q.2)=true
  ·have Wf:p.2=q.2:=by simpa using e2
   exact .inr ⟨e'.symm,by rw [Wf]; exact cK _⟩
  ·rw [if_neg e2] at h;exact .inr ⟨e'.symm,by simpa using h⟩
 ·rw [if_neg e] at h;have e':¬ p.1=q.1:=by simpa using e
  have:¬ p.1 < q.1:=by simpa using h
  exact .inl (by lia)
theorem Tc {p q:(Int × Str) × Str} (h:Uj p q=true):D4 p.1 q.1:=by
 unfold Uj at h;by_cases e:decide (p.1=q.1)=true
 ·have:p.1=q.1:=by simpa using e
  rw [this]; exact D4.refl _
 ·rw [if_neg e] at h;exact Lv h
theorem Td {p q:(Int × Str) × Str} (h:Uj p q=false):D4 q.1 p.1:=by
 unfold Uj at h;by_cases e:decide (p.1=q.1)=true
 ·have:p.1=q.1:=by simpa using e
  rw [this]; exact D4.refl _
 ·rw [if_neg e] at h;exact Lw h
theorem ER (bt:Nat->Nat->Bool) (num:Nat->Int × Str) (h1:∀ i j,bt i j=true->D4 (num i) (num j)) (h2:∀ i j,bt i j=false->D4 (num j) (num i)):∀ k,argBest bt k<=k/\∀ j,j<=k->D4 (num (argBest bt k)) (num j)
 | 0=>⟨ZJ _,fun j hj=>by
  have:j=0:=by lia
  subst this; exact D4.refl _⟩
 | k + 1=>by
  obtain ⟨a1,a2⟩:=ER bt num h1 h2 k;simp only [argBest];cases hc:bt (k + 1) (argBest bt k) with
  | true=>
   simp only [if_true];refine ⟨ZJ _,fun j hj=>?_⟩;by_cases OH:j<=k
   ·exact (h1 _ _ hc).trans (a2 j OH)
   ·have:j=k + 1:=by lia
    subst this; exact D4.refl _
  | false=>
   simp only [ai,if_false];refine ⟨fi a1,fun j hj=>?_⟩;by_cases OH:j<=k
   ·exact a2 j OH
   ·have:j=k + 1:=by lia
    subst this; exact h2 _ _ hc
theorem J3 {X:Cx} (hc:X.calm=true) (hu:X.A.units + 64 < cLine):Bn X (.builtin "min") (fun xs H Q=>∃ (a:Addr) (vs:List V) (ks:List ((Int × Str) × Str)),xs=[.ref a]/\H a=some (.lst vs)/\vs.length=ks.length/\ks ≠ []/\(∀ (i:Nat) v k,vs[i]? = some v->ks[i]? = some k->U8 H v k) /\
  ∀ v k,k ∈ ks->U8 H v k->(∀ k' ∈ ks,D4 k.1 k'.1)->Q v H):=by
 intro pins s σ H xs us Q I r h;obtain ⟨a,vs,ks,rfl,ha,hl,hne,hk,q⟩:=h;obtain ⟨u,rfl,ru⟩:=Cj r;cases ru
 obtain ⟨Av,rv,pl,hz⟩:=I.list (AZ.of ha);have il:Av.length=ks.length:=by rw [<-rv.length,hl]
 have pos:0 < ks.length:=bE.mpr hne;have kat:∀ (i:Nat) (v:Value),Av[i]? = some v->∃ k,ks[i]? = some k/\J9 s.heap v k/\∃ x,vs[i]? = some x/\AM x v:=fun i v e=>by
  have hi:i < Av.length:=(ZN.mp e).1;have e1:vs[i]? = some vs[i]:=Z9 (by lia);have e2:ks[i]? = some ks[i]:=Z9 (by lia);obtain ⟨v',e3,r3⟩:=rv.get e1;rw [e] at e3;cases e3
  exact ⟨_,e2,(hk i _ _ e1 e2).at I r3,_,e1,r3⟩
 refine G8 (bt:=fun i j=>Uj (ks.getD i default) (ks.getD j default)) (I.ok.hd hc) pl.isList (by lia) (fun i j vi vj s' Q' E' g hi hj hQ=>?_) fun v h2 tk hv k2=>?_
 ·obtain ⟨ki,e1,a1,_⟩:=kat i vi hi;obtain ⟨kj,e2,a2,_⟩:=kat j vj hj;have d1:ks.getD i default=ki:=by rw [ZP,e1]; rfl
  have d2:ks.getD j default=kj:=by rw [ZP,e2]; rfl
  dsimp only at hQ;rw [d1,d2] at hQ;exact Vq (a1.keep g) (a2.keep g) (by rw [PySem.Around.in1_units]; lia) _ _ _ _ hQ
 ·obtain ⟨k,e1,a1,x,e3,r3⟩:=kat _ v hv;obtain ⟨b1,b2⟩:=ER (fun i j=>Uj (ks.getD i default) (ks.getD j default)) (fun i=>(ks.getD i default).1) (fun _ _=>Tc) (fun _ _=>Td) (Av.length - 1);refine ⟨x,H,I.kept k2,r3,q x k (ZE e1) (hk _ x k e3 e1) fun k' Us=>?_⟩;obtain ⟨j,hj,ej⟩:=ab Us;have:=b2 j (by lia);have d1:ks.getD (argBest (fun i j=>Uj (ks.getD i default) (ks.getD j default)) (Av.length - 1)) default=k:=by rw [ZP,e1]; rfl
  have d2:ks.getD j default=k':=by rw [ZP,Z9 hj,ej]; rfl
  rw [d1,d2] at this;exact this
theorem JT {X:Cx} (hc:X.calm=true) (hu:X.A.units + 64 < cLine):Bn X (.builtin "min") (fun xs H Q=>∃ (x y:V) (p q:Int × Str),xs=[x,y]/\J8 H x p/\J8 H y q/\((D4 q p->Q y H)/\(D4 p q->Q x H))):=by
 intro pins s σ H xs us Q I r h;obtain ⟨x,y,p,q,rfl,hx,hy,q1,q2⟩:=h;obtain ⟨u,v,rfl,ru,rv⟩:=Oh r;have pu:=hx.at I ru;have pv:=hy.at I rv;refine RB (bt:=fun i j=>Qb ([p,q].getD i default) ([p,q].getD j default)) (I.ok.hd hc) (fun i j vi vj s' Q' E' g hi hj hQ=>?_) fun z h2 tk hz k2=>?_
 ·have at':∀ (i:Nat) (vi:Value),[u,v][i]? = some vi->Dz s.heap vi ([p,q].getD i default):=fun i vi e=>by
   match i,e with
   | 0,e=>cases e; exact pu
   | 1,e=>cases e; exact pv
   | i + 2,e=>cases e
  exact Lu ((at' i vi hi).keep g) ((at' j vj hj).keep g) (by rw [PySem.Around.in1_units]; lia) _ _ _ _ hQ
 ·have e:argBest (fun i j=>Qb ([p,q].getD i default) ([p,q].getD j default)) 1=if Qb q p=true then 1 else 0:=rfl
  rw [e] at hz;cases hl:Qb q p with
  | true=>
   rw [hl,if_pos rfl] at hz;cases hz
   exact ⟨y,H,I.kept k2,rv,q1 (Lv hl)⟩
  | false=>
   rw [hl,if_neg ZV] at hz;cases hz
   exact ⟨x,H,I.kept k2,ru,q2 (Lw hl)⟩
def BP (ws:List AJ) (x y:Str) (l:Int):Prop:=∃ u ∈ ws,((u.1=x/\u.2.1=y)\/(u.1=y/\u.2.1=x))/\u.2.2=l
theorem BP.adj {ws:List AJ} {x y:Str} {l:Int} (h:BP ws x y l):LG ws x y:=let ⟨u,hu,e,_⟩:=h; ⟨u,hu,e⟩
theorem BP.symm {ws:List AJ} {x y:Str} {l:Int} (h:BP ws x y l):BP ws y x l:=let ⟨u,hu,e,z⟩:=h; ⟨u,hu,e.symm,z⟩
inductive Bl (ws:List AJ):Str->Str->Int->Prop
 | nil (x:Str):Bl ws x x 0
 | cons {x y z:Str} {l m:Int}:BP ws x y l->Bl ws y z m->Bl ws x z (l + m)
theorem Bl.app {ws:List AJ} {x y z:Str} {m n:Int} (h:Bl ws x y m) (g:Bl ws y z n):Bl ws x z (m + n):=by
 induction h with
 | nil x=>rw [dh]; exact g
 | cons e _ ih=>rw [cy]; exact .cons e (ih g)
theorem Bl.snoc {ws:List AJ} {x y z:Str} {m l:Int} (h:Bl ws x y m) (e:BP ws y z l):Bl ws x z (m + l):=by
 have:=h.app (.cons e (.nil z));rwa [cI] at this
theorem Bl.symm {ws:List AJ} {x y:Str} {m:Int} (h:Bl ws x y m):Bl ws y x m:=by
 induction h with
 | nil x=>exact .nil x
 | @cons x y z l m e _ ih=>rw [Int.add_comm]; exact ih.snoc e.symm
theorem Bl.pos {ws:List AJ} (hp:∀ u ∈ ws,1<=u.2.2) {x y:Str} {m:Int} (h:Bl ws x y m):0<=m:=by
 induction h with
 | nil x=>exact aV _
 | cons e _ ih=>
  obtain ⟨u,hu,_,rfl⟩:=e;have:=hp u hu;lia
def NY (ws:List AJ) (ss:List Str) (y:Str) (p:Int × Str):Prop:=(p.2 ∈ ss/\Bl ws p.2 y p.1)/\∀ s ∈ ss,∀ m,Bl ws s y m->D4 p (m,s)
structure TN (ws:List AJ) (ss:List Str) (S R:Str->Int × Str->Prop):Prop where
 near:∀ y p,S y p->NY ws ss y p
 reach:∀ y p,R y p->p.2 ∈ ss/\Bl ws p.2 y p.1
 relax:∀ x p y l,S x p->BP ws x y l->(∃ q,S y q)\/∃ q,R y q/\D4 q (p.1 + l,p.2)
 start:∀ s ∈ ss,(∃ q,S s q)\/∃ q,R s q/\D4 q (0,s)
theorem TN.out {ws:List AJ} {ss:List Str} {S R:Str->Int × Str->Prop} (h:TN ws ss S R) (hp:∀ u ∈ ws,1<=u.2.2) {x z:Str} {m:Int} (g:Bl ws x z m) (hz:∀ q,¬ S z q):∀ p,S x p->∃ y q,R y q/\D4 q (p.1 + m,p.2):=by
 induction g with
 | nil x=>intro p Zc; exact absurd Zc (hz p)
 | @cons x y z l m e g ih=>
  intro p hx;rcases h.relax x p y l hx e with ⟨q,hq⟩ | ⟨q,hq,le⟩
  ·obtain ⟨y',q',h1,h2⟩:=ih hz q hq;refine ⟨y',q',h1,h2.trans ?_⟩;have n1:=(h.near y q hq).2 p.2 (h.near x p hx).1.1 (p.1 + l) ((h.near x p hx).1.2.snoc e);have:=n1.add (l:=m);rw [cy] at this;exact this
  ·exact ⟨y,q,hq,le.trans (D4.up (by have:=g.pos hp; lia))⟩
theorem TN.pick {ws:List AJ} {ss:List Str} {S R:Str->Int × Str->Prop} (h:TN ws ss S R) (hp:∀ u ∈ ws,1<=u.2.2) {y:Str} {p:Int × Str} (hy:R y p) (ny:∀ q,¬ S y q) (least:∀ z q,R z q->D4 p q):NY ws ss y p:=by
 refine ⟨h.reach y p hy,fun s hs m g=>?_⟩;rcases h.start s hs with ⟨q,hq⟩ | ⟨q,hq,le⟩
 ·obtain ⟨z,q',h1,h2⟩:=h.out hp g ny q hq;refine (least z q' h1).trans (h2.trans ?_);have n1:=(h.near s q hq).2 s hs 0 (.nil s);have:=(show D4 (q.1,q.2) (0,s) from n1).add (l:=m);rw [dh] at this;exact this
 ·exact (least s q hq).trans (le.trans (D4.up (g.pos hp)))
theorem TN.done {ws:List AJ} {ss:List Str} {S R:Str->Int × Str->Prop} (h:TN ws ss S R) (hR:∀ y p,¬ R y p) {r:Str} (hss:ss ≠ []) {ps:List Str} (con:∀ T:Str->Prop,T r->(∀ x y,LG ws x y->T x->T y)->∀ x ∈ ps,T x)
  (Z5:∀ T:Str->Prop,∀ x ∈ ps,T x->(∀ x y,LG ws x y->T x->T y)->T r) (sub:∀ s ∈ ss,s ∈ ps):∀ x ∈ ps,∃ q,S x q:=by
 have cl:∀ x y,LG ws x y->(∃ q,S x q)->∃ q,S y q:=fun x y ⟨u,hu,e⟩ ⟨q,hq⟩=>by
  rcases h.relax x q y u.2.2 hq ⟨u,hu,e,rfl⟩ with z | ⟨q',hq',_⟩
  ·exact z
  ·exact absurd hq' (hR _ _)
 obtain ⟨s,hs⟩:=List.exists_mem_of_ne_nil ss hss;have s0:∃ q,S s q:=by
  rcases h.start s hs with z | ⟨q,hq,_⟩
  ·exact z
  ·exact absurd hq (hR _ _)
 exact con (fun x=>∃ q,S x q) (Z5 (fun x=>∃ q,S x q) s (sub s hs) s0 cl) cl
theorem Lg {a b:List (Str × V)} (h:sK a=sK b):a=b:=by
 unfold sK at h;exact eU (fun x y z=>by
  simp only [Prod.mk.injEq,Sum.inr.injEq] at z;exact Prod.ext z.1 z.2) |>.mp h
theorem Ie {nv DZ:List (Str × V)} {y:Str} {v:V} (e:BM (sK nv) (Sum.inr y:Bj) v=sK DZ):∀ z x,(z,x) ∈ DZ ↔ (z=y/\x=v)\/(z ≠ y/\(z,x) ∈ nv):=by
 intro z x;by_cases h:y ∈ nv.map (·.1)
 ·have e2:BM (sK nv) (Sum.inr y:Bj) v=sK (nv.map fun q=>if q.1=y then (q.1,v) else q):=by
   unfold BM;have:((sK nv).any fun kv=>decide (kv.1=(Sum.inr y:Bj)))=true:=by rw [Co,Hq,decide_eq_true h]
   rw [if_pos this];unfold sK;rw [aL,aL];refine bF fun q _=>?_
   by_cases e:q.1=y
   ·simp [e]
   ·have e':¬ (Sum.inr q.1:Bj)=Sum.inr y:=fun z=>e (Sum.inr.inj z)
    simp [e,e']
  rw [e2] at e;rw [<-Lg e,ZO];constructor
  ·rintro ⟨q,hq,e⟩;by_cases eq:q.1=y
   ·rw [if_pos eq] at e;have e1:q.1=z:=congrArg Prod.fst e;have e3:v=x:=congrArg Prod.snd e;exact .inl ⟨by rw [<-e1,eq],e3.symm⟩
   ·rw [if_neg eq] at e;refine .inr ⟨?_,by rw [<-e]; exact hq⟩;rw [show z=q.1 from (congrArg Prod.fst e).symm]; exact eq
  ·rintro (⟨rfl,rfl⟩ | ⟨h1,h2⟩)
   ·obtain ⟨q,hq,e1⟩:=ZO.mp h;have Sr:q.1=z:=e1;exact ⟨q,hq,by rw [if_pos Sr,Sr]⟩
   ·exact ⟨(z,x),h2,by rw [if_neg h1]⟩
 ·rw [DI h] at e;rw [<-Lg e,af];constructor
  ·rintro (h1 | h1)
   ·refine .inr ⟨?_,h1⟩;rintro rfl;exact h (ZO.mpr ⟨_,h1,rfl⟩)
   ·simp only [aa,Prod.mk.injEq] at h1;exact .inl h1
  ·rintro (⟨rfl,rfl⟩ | ⟨_,h2⟩)
   ·exact .inr (by simp)
   ·exact .inl h2
theorem SG (nv:List (Str × V)) (y:Str):Jv (sK nv) (Sum.inr y:Bj)=sK (nv.filter fun q=>decide (q.1 ≠ y)):=by
 unfold Jv sK;rw [List.filter_map];congr 1;refine List.filter_congr fun q _=>?_
 by_cases e:q.1=y
 ·simp [e]
 ·have e':¬ (Sum.inr q.1:Bj)=Sum.inr y:=fun z=>e (Sum.inr.inj z)
  simp [e,e']
def Su (H:Hp) (ps:List Str) (ds:List Addr) (Ed:Str->Str->Int->Prop):Prop:=∀ (i:Nat) (p:Str) (d:Addr) (nv:List (Str × V)),ps[i]? = some p->ds[i]? = some d->Rd H d (.dK (sK nv))->∀ y v,(y,v) ∈ nv->∃ l,v=.int l/\Ed p y l
theorem Rd.inj {H:Hp} {d:Addr} {a b:List (Str × V)} (h:Rd H d (.dK (sK a))) (g:Rd H d (.dK (sK b))):a=b:=by
 rcases h with h | ⟨o,h⟩ <;> rcases g with g | ⟨o',g⟩ <;> have e:=ZZ.inj (h.symm.trans g)
 ·injection e with e; exact Lg e
 ·exact nomatch e
 ·exact nomatch e
 ·injection e with _ e;injection e with e; exact Lg e
theorem Su.put {H:Hp} {ps:List Str} {ds:List Addr} {Ed Ed':Str->Str->Int->Prop} (h:Su H ps ds Ed) (hn:ps.Nodup) (dn:ds.Nodup) {i:Nat} {p y:Str} {d:Addr} {l:Int} (e1:ps[i]? = some p) (e2:ds[i]? = some d) {nv DZ:List (Str × V)} (hd:H d=some (.dK (sK nv)))
  (ep:BM (sK nv) (Sum.inr y:Bj) (.int l)=sK DZ) (mono:∀ a b m,Ed a b m->Ed' a b m) (new:Ed' p y l):Su (upd H d (.dK (sK DZ))) ps ds Ed':=by
 intro j q c nw f1 f2 hr z v hz;by_cases hc:c=d
 ·subst hc;have ij:i=j:=Hy dn e2 f2;subst ij;rw [e1] at f1; cases f1;have:nw=DZ:=Rd.inj hr (.inl Ab);subst this;rcases (Ie ep z v).mp hz with ⟨rfl,rfl⟩ | ⟨_,MW⟩
  ·exact ⟨l,rfl,new⟩
  ·obtain ⟨l',e,ed⟩:=h i _ c nv e1 e2 (.inl hd) z v MW;exact ⟨l',e,mono _ _ _ ed⟩
 ·have hr':Rd H c (.dK (sK nw)):=by
   rcases hr with g | ⟨o,g⟩
   ·exact .inl (by rw [Ae hc] at g; exact g)
   ·exact .inr ⟨o,by rw [Ae hc] at g; exact g⟩
  obtain ⟨l',e,ed⟩:=h j q c nw f1 f2 hr' z v hz;exact ⟨l',e,mono _ _ _ ed⟩
def QZ (K:ZD):Sp:=fun vs H Q _=>∃ (q:Addr) (ps:List Str) (ws:List AJ) (r:Str),vs=[.ref q]/\J6 H q ps ws r /\
 ∀ (H':Hp) (B:Addr) (ds:List Addr),Aq H H'->NB H' B ps ds (LG ws) 128->Su H' ps ds (BP ws)->H B=none->(∀ d ∈ ds,H d=none)->Q (.ref B) H'
theorem PI.or {X:Cx} {tg l:Expr} {w1 w2:TI} (h1:PI X tg l w1) (h2:PI X tg l w2):PI X tg l (fun σ H R=>w1 σ H R\/w2 σ H R):=by
 intro pins s σ H R I h;rcases h with h | h
 ·exact h1 pins s σ H R I h
 ·exact h2 pins s σ H R I h
def NW (H:Hp) (nv:List (Str × V)) (S:Str->Int × Str->Prop):Prop:=(nv.map (·.1)).Nodup/\(∀ y v,(y,v) ∈ nv->∃ p,J8 H v p/\S y p)/\∀ y p,S y p->∃ v,(y,v) ∈ nv/\J8 H v p
def QY (K:ZD):Sp:=fun vs H Q _=>∃ (q st:Addr) (ps ss:List Str) (ws:List AJ) (r:Str),vs=[.ref q,.ref st]/\J6 H q ps ws r/\(∀ u ∈ ws,1<=u.2.2)/\(∀ x y l l',BP ws x y l->BP ws x y l'->l=l')/\(H st=some (.lst (ss.map V.str))\/H st=some (.tup (ss.map V.str)))/\ss ≠ []/\ss.Nodup/\(∀ s ∈ ss,s ∈ ps) /\
 ∀ (H':Hp) (B:Addr) (nv:List (Str × V)),Aq H H'->H B=none->H' B=some (.dK (sK nv))->(nv.map (·.1)).Nodup->(∀ x,x ∈ nv.map (·.1) ↔ x ∈ ps)->(∀ y v,(y,v) ∈ nv->∃ p,J8 H' v p/\NY ws ss y p)->Q (.ref B) H'
theorem Kl {nv:List (Str × V)} {y:Str} {v:V} (h:B9 (sK nv) (Sum.inr y:Bj)=some v):(y,v) ∈ nv:=by
 unfold B9 at h;cases e:(sK nv).find? (fun kv=>decide (kv.1=(Sum.inr y:Bj))) with
 | none=>rw [e] at h; cases h
 | some kv=>
  rw [e] at h;have h1:=List.find?_some e;have h2:=List.mem_of_find?_eq_some e;obtain ⟨q,hq,rfl⟩:=ZO.mp h2;have e1:q.1=y:=by
   have:(Sum.inr q.1:Bj)=Sum.inr y:=by simpa using h1
   exact Sum.inr.inj this
  have e2:q.2=v:=ZZ.inj h;rw [<-e1,<-e2];exact hq
theorem Qt {ws:List AJ} {i:Nat} {a b:Str} {m:Int} (h:BP (ws.take i) a b m):BP (ws.take (i + 1)) a b m:=by
 obtain ⟨u,hu,e⟩:=h;rw [ZR];exact ⟨u,aT _ hu,e⟩
theorem MH {ws:List AJ} {i:Nat} {u:AJ} (h:ws[i]? = some u):BP (ws.take (i + 1)) u.1 u.2.1 u.2.2:=by
 rw [ZR,h];exact ⟨u,ZT _ (by simp),.inl ⟨rfl,rfl⟩,rfl⟩
theorem J8.fn {H:Hp} {v:V} {p q:Int × Str} (h:J8 H v p) (g:J8 H v q):p=q:=by
 obtain ⟨t,rfl,e⟩:=h;obtain ⟨t',e',g⟩:=g;have:t=t':=by injection e'
 subst this;have z:=ZZ.inj (e.symm.trans g);injection z with z;simp only [cQ.injEq,V.int.injEq,V.str.injEq] at z;exact Prod.ext z.1 z.2.1
theorem NR.same {H H':Hp} {B:Addr} {ps:List Str} {ds:List Addr} {P:Str->Str->Prop} (h:NR H B ps ds P) (s:Aq H H'):NR H' B ps ds P:=
 ⟨s _ _ h.top,h.len,h.nd,h.nB,fun i p d e1 e2=>let ⟨nv,a1,a3⟩:=h.inner i p d e1 e2
  ⟨nv,(by rcases a1 with a | ⟨o,a⟩; exact .inl (s _ _ a); exact .inr ⟨o,s _ _ a⟩),a3⟩⟩
theorem Su.of {H H':Hp} {B:Addr} {ps:List Str} {ds:List Addr} {P:Str->Str->Prop} {Ed:Str->Str->Int->Prop} (h:Su H ps ds Ed) (nr:NR H B ps ds P) (k:∀ d ∈ ds,∀ nv:List (Str × V),Rd H d (.dK (sK nv))->Rd H' d (.dK (sK nv))):Su H' ps ds Ed:=by
 intro i p d nv e1 e2 hr y v hy;obtain ⟨nw,a1,_⟩:=nr.inner i p d e1 e2;have:=Rd.inj hr (k d (ZE e2) nw a1);subst this;exact h i p d nv e1 e2 a1 y v hy
theorem NW.same {H H':Hp} {nv:List (Str × V)} {S:Str->Int × Str->Prop} (h:NW H nv S) (s:∀ b xs,H b=some (.tup xs)->H' b=some (.tup xs)):NW H' nv S:=
 ⟨h.1,fun y v hv=>let ⟨p,a,b⟩:=h.2.1 y v hv; ⟨p,a.same s,b⟩,fun y p hp=>let ⟨v,a,b⟩:=h.2.2 y p hp; ⟨v,a,b.same s⟩⟩
theorem NW.fn {H:Hp} {nv:List (Str × V)} {S:Str->Int × Str->Prop} (h:NW H nv S) {y:Str} {p q:Int × Str} (hp:S y p) (hq:S y q):p=q:=by
 obtain ⟨v,a,b⟩:=h.2.2 y p hp;obtain ⟨w,c,d⟩:=h.2.2 y q hq;have:=QM h.1 a c;subst this;exact b.fn d
theorem NW.put {H:Hp} {nv DZ:List (Str × V)} {S:Str->Int × Str->Prop} {y:Str} {v:V} {p:Int × Str} (h:NW H nv S) (e:BM (sK nv) (Sum.inr y:Bj) v=sK DZ) (hv:J8 H v p):NW H DZ (fun z q=>(z=y/\q=p)\/(z ≠ y/\S z q)):=by
 refine ⟨SF e h.1,fun z x hz=>?_,fun z q hq=>?_⟩
 ·rcases (Ie e z x).mp hz with ⟨rfl,rfl⟩ | ⟨n,MW⟩
  ·exact ⟨p,hv,.inl ⟨rfl,rfl⟩⟩
  ·obtain ⟨q,a,b⟩:=h.2.1 z x MW;exact ⟨q,a,.inr ⟨n,b⟩⟩
 ·rcases hq with ⟨rfl,rfl⟩ | ⟨n,hq⟩
  ·exact ⟨v,(Ie e _ _).mpr (.inl ⟨rfl,rfl⟩),hv⟩
  ·obtain ⟨x,a,b⟩:=h.2.2 z q hq;exact ⟨x,(Ie e _ _).mpr (.inr ⟨n,a⟩),b⟩
theorem NW.drop {H:Hp} {nv:List (Str × V)} {S:Str->Int × Str->Prop} (h:NW H nv S) (y:Str):NW H (nv.filter fun q=>decide (q.1 ≠ y)) (fun z q=>z ≠ y/\S z q):=by
 refine ⟨G6 h.1 _,fun z x hz=>?_,fun z q hq=>?_⟩
 ·obtain ⟨a,b⟩:=aU.mp hz;obtain ⟨q,c,d⟩:=h.2.1 z x a;exact ⟨q,c,by simpa using b,d⟩
 ·obtain ⟨n,hq⟩:=hq;obtain ⟨x,a,b⟩:=h.2.2 z q hq;exact ⟨x,aU.mpr ⟨a,by simpa using n⟩,b⟩
structure NI (H H2:Hp) (ps:List Str) (ws:List AJ) (B RA SA:Addr) (ds:List Addr) (nvR nvS:List (Str × V)) (S R:Str->Int × Str->Prop):Prop where
 same:Aq H H2
 nr:NR H2 B ps ds (LG ws)
 nbv:Su H2 ps ds (BP ws)
 dR:H2 RA=some (.dK (sK nvR))
 dS:H2 SA=some (.dK (sK nvS))
 pR:NW H2 nvR R
 pS:NW H2 nvS S
 subR:∀ y ∈ nvR.map (·.1),y ∈ ps
 subS:∀ y ∈ nvS.map (·.1),y ∈ ps
section
variable {H H2 H3:Hp} {ps:List Str} {ws:List AJ} {B RA SA:Addr} {ds:List Addr} {nvR nvS:List (Str × V)} {S R:Str->Int × Str->Prop}
theorem NI.grow (h:NI H H2 ps ws B RA SA ds nvR nvS S R) (s:Aq H2 H3):NI H H3 ps ws B RA SA ds nvR nvS S R:=
 ⟨h.same.trans s,h.nr.same s,h.nbv.of h.nr fun d _ nv z=>by rcases z with a | ⟨o,a⟩; exact .inl (s _ _ a); exact .inr ⟨o,s _ _ a⟩,s _ _ h.dR,s _ _ h.dS,h.pR.same fun b xs z=>s _ _ z,h.pS.same fun b xs z=>s _ _ z,h.subR,h.subS⟩
theorem NI.lenS (h:NI H H2 ps ws B RA SA ds nvR nvS S R):nvS.length<=ps.length:=by
 have:=Ca h.pS.1 h.subS;rwa [ZA] at this
theorem NI.lenR (h:NI H H2 ps ws B RA SA ds nvR nvS S R):nvR.length<=ps.length:=by
 have:=Ca h.pR.1 h.subR;rwa [ZA] at this
theorem NI.inS (h:NI H H2 ps ws B RA SA ds nvR nvS S R) {y:Str}:y ∈ nvS.map (·.1) ↔ ∃ q,S y q:=by
 constructor
 ·intro hy;obtain ⟨⟨z,v⟩,a,b⟩:=ZO.mp hy;have b':z=y:=b;subst b';obtain ⟨p,_,c⟩:=h.pS.2.1 z v a;exact ⟨p,c⟩
 ·rintro ⟨q,hq⟩;obtain ⟨v,a,_⟩:=h.pS.2.2 y q hq;exact ZO.mpr ⟨_,a,rfl⟩
theorem NI.inR (h:NI H H2 ps ws B RA SA ds nvR nvS S R) {y:Str}:y ∈ nvR.map (·.1) ↔ ∃ q,R y q:=by
 constructor
 ·intro hy;obtain ⟨⟨z,v⟩,a,b⟩:=ZO.mp hy;have b':z=y:=b;subst b';obtain ⟨p,_,c⟩:=h.pR.2.1 z v a;exact ⟨p,c⟩
 ·rintro ⟨q,hq⟩;obtain ⟨v,a,_⟩:=h.pR.2.2 y q hq;exact ZO.mpr ⟨_,a,rfl⟩
theorem NI.setR (h:NI H H2 ps ws B RA SA ds nvR nvS S R) (aR:RA ∉ ds/\RA ≠ B/\RA ≠ SA/\H RA=none) {DZ:List (Str × V)} {R':Str->Int × Str->Prop} (p':NW H2 DZ R') (sub:∀ y ∈ DZ.map (·.1),y ∈ ps):NI H (upd H2 RA (.dK (sK DZ))) ps ws B RA SA ds DZ nvS S R':=by
 have tu:∀ b xs,H2 b=some (.tup xs)->(upd H2 RA (.dK (sK DZ))) b=some (.tup xs):=fun b xs z=>by
  rw [Ae (Cy z h.dR (by intro z; cases z))]; exact z
 exact ⟨fun b o z=>by rw [Ae (Ah z aR.2.2.2)]; exact h.same _ _ z,h.nr.other aR.1 aR.2.1,h.nbv.of h.nr fun d hd nv z=>z.ne (fun e=>aR.1 (by rw [<-e]; exact hd)),Ab,by rw [Ae (Ne.symm aR.2.2.1)]; exact h.dS,p'.same tu,h.pS.same tu,sub,h.subS⟩
theorem NI.setS (h:NI H H2 ps ws B RA SA ds nvR nvS S R) (aS:SA ∉ ds/\SA ≠ B/\SA ≠ RA/\H SA=none) {DZ:List (Str × V)} {S':Str->Int × Str->Prop} (p':NW H2 DZ S') (sub:∀ y ∈ DZ.map (·.1),y ∈ ps):NI H (upd H2 SA (.dK (sK DZ))) ps ws B RA SA ds nvR DZ S' R:=by
 have tu:∀ b xs,H2 b=some (.tup xs)->(upd H2 SA (.dK (sK DZ))) b=some (.tup xs):=fun b xs z=>by
  rw [Ae (Cy z h.dS (by intro z; cases z))]; exact z
 exact ⟨fun b o z=>by rw [Ae (Ah z aS.2.2.2)]; exact h.same _ _ z,h.nr.other aS.1 aS.2.1,h.nbv.of h.nr fun d hd nv z=>z.ne (fun e=>aS.1 (by rw [<-e]; exact hd)),by rw [Ae (Ne.symm aS.2.2.1)]; exact h.dR,Ab,h.pR.same tu,p'.same tu,h.subR,sub⟩
theorem NI.frz (h:NI H H2 ps ws B RA SA ds nvR nvS S R) (aR:RA ∉ ds) (aS:SA ∉ ds) (fr:∀ d ∈ ds,H d=none) {i:Nat} {p:Str} {d:Addr} (e1:ps[i]? = some p) (e2:ds[i]? = some d) {nv:List (Str × V)} {o:Obj} (f:Ez H2 d (sK nv) o H3) (hP:∀ y,y ∈ nv.map (·.1) ↔ LG ws p y):NI H H3 ps ws B RA SA ds nvR nvS S R:=by
 have dm:d ∈ ds:=ZE e2;have tu:∀ b xs,H2 b=some (.tup xs)->H3 b=some (.tup xs):=fun b xs z=>by
  rw [f.ne (by
   rintro rfl;rcases f with ⟨g,_⟩ | ⟨g,_⟩ <;> (rw [z] at g; cases g))]
  exact z
 refine ⟨fun b u z=>by rw [f.ne (Ah z (fr d dm))]; exact h.same _ _ z,h.nr.freeze e1 e2 f hP,h.nbv.of h.nr fun c hc nw z=>?_,by rw [f.ne (fun z=>aR (by rw [z]; exact dm))]; exact h.dR,by rw [f.ne (fun z=>aS (by rw [z]; exact dm))]; exact h.dS,h.pR.same tu,h.pS.same tu,h.subR,h.subS⟩;by_cases hcd:c=d
 ·subst hcd;rcases f with ⟨g,e⟩ | ⟨g,e⟩
  ·have:=Rd.inj z (.inl g);subst this;exact .inr ⟨o,by rw [e]; exact Ab⟩
  ·rw [e]; exact z
 ·exact z.fz f hcd
end
theorem EN:entryFor table "dict.update.loop"=some Builtin.«dict.update.loop»:=entryFor_of_tree (by kernel_rfl)
theorem Cs:plainId "dict.update.loop"=true:=by decide +kernel
def U5 (g0:Heap) (v:Value) (p:Str × V):Prop:=∃ a t u,v=.ref a/\IsTup g0 a #[.str p.1 t,u]/\AM p.2 u
section
variable {prog:Program} {w:World} {A:Around} {R:Result->Shared->Prop} {g0:Heap} {D it l:Addr} {vs:List Value} {ps:List (Str × V)}
end
section
variable {prog:Program} {w:World} {A:Around} {E:Value->Shared->Prop} {s:Shared}
end
theorem M7:∀ (b a:List (Str × V)),((a ++ b).map (·.1)).Nodup->Je (sK a) (sK b)=sK (a ++ b)
 | [],a,_=>by rw [bV]; rfl
 | q :: b,a,hn=>by
  have nq:q.1 ∉ a.map (·.1):=by
   rw [ZG,ZS] at hn;intro hm;exact (ba.mp hn).2.2 q.1 hm q.1 ae rfl
  show Je (BM (sK a) (Sum.inr q.1) q.2) (sK b)=_
  rw [DI nq];have:=M7 b (a ++ [(q.1,q.2)]) (by rw [aQ]; exact hn);rw [this,aQ];rfl
theorem Rl:∀ {ws:List AJ},(ws.Pairwise fun u v=>¬ JA u v)->∀ {u v:AJ},u ∈ ws->v ∈ ws->JA u v->u=v
 | [],_,u,v,hu,_,_=>nomatch hu
 | a :: ws,h,u,v,hu,hv,al=>by
  obtain ⟨h1,h2⟩:=bJ.mp h;rcases ZF.mp hu with e1 | XX
  ·rcases ZF.mp hv with e2 | YU
   ·rw [e1,e2]
   ·exact absurd (by rw [<-e1]; exact al) (h1 v YU)
  ·rcases ZF.mp hv with e2 | YU
   ·refine absurd ?_ (h1 u XX);rw [<-e2];rcases al with ⟨a1,a2⟩ | ⟨a1,a2⟩
    ·exact .inl ⟨a1.symm,a2.symm⟩
    ·exact .inr ⟨a2.symm,a1.symm⟩
   ·exact Rl h2 XX YU al
theorem Qs {ws:List AJ} (h:ws.Pairwise fun u v=>¬ JA u v) {x y:Str} {l l':Int} (e:BP ws x y l) (e':BP ws x y l'):l=l':=by
 obtain ⟨u,hu,a,rfl⟩:=e;obtain ⟨v,hv,b,rfl⟩:=e';have:u=v:=Rl h hu hv (by
  rcases a with ⟨a1,a2⟩ | ⟨a1,a2⟩ <;> rcases b with ⟨b1,b2⟩ | ⟨b1,b2⟩
  ·exact .inl ⟨a1.trans b1.symm,a2.trans b2.symm⟩
  ·exact .inr ⟨a1.trans b2.symm,a2.trans b1.symm⟩
  ·exact .inr ⟨a1.trans b2.symm,a2.trans b1.symm⟩
  ·exact .inl ⟨a1.trans b1.symm,a2.trans b2.symm⟩)
 rw [this]
theorem K5 {ws EV:List AJ} (p:EV.Perm (ws.map Ep)) (x y:Str) (l:Int):BP EV x y l ↔ BP ws x y l:=by
 constructor
 ·rintro ⟨u,hu,h,e⟩;obtain ⟨v,hv,rfl⟩:=ZO.mp (p.mem_iff.mp hu);refine ⟨v,hv,?_,e⟩;rcases C3 v with ⟨e1,e2⟩ | ⟨e1,e2⟩
  ·rw [e1,e2] at h; exact h
  ·rw [e1,e2] at h;rcases h with ⟨a,b⟩ | ⟨a,b⟩
   ·exact .inr ⟨b,a⟩
   ·exact .inl ⟨b,a⟩
 ·rintro ⟨v,hv,h,e⟩;refine ⟨Ep v,p.mem_iff.mpr (ZO.mpr ⟨v,hv,rfl⟩),?_,e⟩;rcases C3 v with ⟨e1,e2⟩ | ⟨e1,e2⟩
  ·rw [e1,e2]; exact h
  ·rw [e1,e2];rcases h with ⟨a,b⟩ | ⟨a,b⟩
   ·exact .inr ⟨b,a⟩
   ·exact .inl ⟨b,a⟩
theorem QG {ws EV:List AJ} (h:∀ x y l,BP EV x y l ↔ BP ws x y l) {x y:Str} {m:Int}:Bl EV x y m ↔ Bl ws x y m:=by
 constructor
 ·intro g;induction g with
  | nil x=>exact .nil x
  | cons e _ ih=>exact .cons ((h _ _ _).mp e) ih
 ·intro g;induction g with
  | nil x=>exact .nil x
  | cons e _ ih=>exact .cons ((h _ _ _).mpr e) ih
def KI (ws:List AJ) (x y:Str) (n:Int):Prop:=Bl ws x y n/\∀ m,Bl ws x y m->n<=m
theorem NY.dst {ws:List AJ} {x y:Str} {p:Int × Str} (h:NY ws [x] y p):p.2=x/\KI ws x y p.1:=by
 have e:p.2=x:=by simpa using h.1.1
 refine ⟨e,by rw [<-e]; exact h.1.2,fun m g=>(h.2 x (by simp) m g).fst⟩
theorem KI.uniq {ws:List AJ} {x y:Str} {n m:Int} (h:KI ws x y n) (g:KI ws x y m):n=m:=Int.le_antisymm (h.2 m g.1) (g.2 n h.1)
theorem KI.symm {ws:List AJ} {x y:Str} {n:Int} (h:KI ws x y n):KI ws y x n:=⟨h.1.symm,fun m g=>h.2 m g.symm⟩
inductive WI (ws:List AJ) (I:Str->Prop):Str->Str->Int->Prop
 | edge {x y:Str} {l:Int}:BP ws x y l->WI ws I x y l
 | cons {x y z:Str} {l m:Int}:BP ws x y l->I y->WI ws I y z m->WI ws I x z (l + m)
theorem WI.pos {ws:List AJ} (hp:∀ u ∈ ws,1<=u.2.2) {I:Str->Prop} {x y:Str} {m:Int} (h:WI ws I x y m):0<=m:=by
 induction h with
 | edge e=>obtain ⟨u,hu,_,rfl⟩:=e; have:=hp u hu; lia
 | cons e _ _ ih=>obtain ⟨u,hu,_,rfl⟩:=e; have:=hp u hu; lia
theorem WI.ends {ws:List AJ} {xs:List Str} (he:∀ u ∈ ws,u.1 ∈ xs/\u.2.1 ∈ xs) {x y:Str} {l:Int} (e:BP ws x y l):x ∈ xs/\y ∈ xs:=by
 obtain ⟨u,hu,h,_⟩:=e;obtain ⟨a,b⟩:=he u hu;rcases h with ⟨rfl,rfl⟩ | ⟨rfl,rfl⟩
 ·exact ⟨a,b⟩
 ·exact ⟨b,a⟩
theorem WI.split {ws:List AJ} (hp:∀ u ∈ ws,1<=u.2.2) {I J:Str->Prop} {k:Str} (hJ:∀ z,J z->I z\/z=k) {x y:Str} {m:Int} (h:WI ws J x y m):WI ws I x y m\/∃ m1 m2,WI ws I x k m1/\WI ws I k y m2/\m1 + m2<=m:=by
 induction h with
 | edge e=>exact .inl (.edge e)
 | @cons x a y l m e ha g ih=>
  by_cases hk:a=k
  ·subst hk;rcases ih with h | ⟨m1,m2,h1,h2,h3⟩
   ·exact .inr ⟨l,m,.edge e,h,aV _⟩
   ·have:=h1.pos hp;exact .inr ⟨l,m2,.edge e,h2,by lia⟩
  ·have hI:I a:=(hJ a ha).resolve_right hk;rcases ih with h | ⟨m1,m2,h1,h2,h3⟩
   ·exact .inl (.cons e hI h)
   ·exact .inr ⟨l + m1,m2,.cons e hI h1,h2,by lia⟩
theorem Bl.wi {ws:List AJ} {xs:List Str} (he:∀ u ∈ ws,u.1 ∈ xs/\u.2.1 ∈ xs) {x y:Str} {m:Int} (h:Bl ws x y m):(x=y/\m=0)\/WI ws (· ∈ xs) x y m:=by
 induction h with
 | nil x=>exact .inl ⟨rfl,rfl⟩
 | @cons x a y l m e g ih=>
  rcases ih with ⟨rfl,rfl⟩ | h
  ·exact .inr (by rw [cI]; exact .edge e)
  ·exact .inr (.cons e (WI.ends he e).2 h)
structure FW (ws:List AJ) (xs:List Str) (t:Nat) (M:Str->Str->Option Int):Prop where
 sound:∀ x y n,M x y=some n->Bl ws x y n
 comp:∀ x y m,WI ws (· ∈ xs.take t) x y m->∃ n,M x y=some n/\n<=m
 diag:∀ x ∈ xs,∃ n,M x x=some n/\n<=0
def Gq (M0 M:Str->Str->Option Int):Prop:=∀ x y n,M0 x y=some n->∃ n',M x y=some n'/\n'<=n
theorem Gq.refl (M:Str->Str->Option Int):Gq M M:=fun _ _ n h=>⟨n,h,aV _⟩
theorem Gq.trans {M0 M1 M2:Str->Str->Option Int} (h:Gq M0 M1) (g:Gq M1 M2):Gq M0 M2:=fun x y n e=>by
 obtain ⟨n1,e1,l1⟩:=h x y n e;obtain ⟨n2,e2,l2⟩:=g x y n1 e1;exact ⟨n2,e2,by lia⟩
theorem FW.next {ws:List AJ} (hp:∀ u ∈ ws,1<=u.2.2) {xs:List Str} (he:∀ u ∈ ws,u.1 ∈ xs/\u.2.1 ∈ xs) {t:Nat} {k:Str} (hk:xs[t]? = some k) {M0 M:Str->Str->Option Int} (h:FW ws xs t M0) (mo:Gq M0 M) (so:∀ x y n,M x y=some n->Bl ws x y n)
  (via:∀ x ∈ xs,∀ y ∈ xs,∀ n1 n2,M0 x k=some n1->M0 k y=some n2->∃ n,M x y=some n/\n<=n1 + n2):FW ws xs (t + 1) M:=by
 refine ⟨so,fun x y m g=>?_,fun x hx=>?_⟩
 ·have ex:x ∈ xs/\y ∈ xs:=by
   clear mo so via h;induction g with
   | edge e=>exact WI.ends he e
   | cons e _ _ ih=>exact ⟨(WI.ends he e).1,ih.2⟩
  rcases g.split hp (I:=(· ∈ xs.take t)) (k:=k) (fun z hz=>by
   rw [ZR,hk] at hz;rcases af.mp hz with hz | hz
   ·exact .inl hz
   ·exact .inr (by simpa using hz)) with g | ⟨m1,m2,g1,g2,le⟩
  ·obtain ⟨n,e,l⟩:=h.comp x y m g;obtain ⟨n',e',l'⟩:=mo x y n e;exact ⟨n',e',by lia⟩
  ·obtain ⟨n1,e1,l1⟩:=h.comp x k m1 g1;obtain ⟨n2,e2,l2⟩:=h.comp k y m2 g2;obtain ⟨n,e,l⟩:=via x ex.1 y ex.2 n1 n2 e1 e2;exact ⟨n,e,by lia⟩
 ·obtain ⟨n,e,l⟩:=h.diag x hx;obtain ⟨n',e',l'⟩:=mo x x n e;exact ⟨n',e',by lia⟩
def MD (H:Hp) (A:Addr) (M:Str->Str->Option Int) (c:Nat):Prop:=∃ kvs:List (List Bj × V),H A=some (.dT kvs)/\kvs.length<=c/\∀ x y,B9 kvs [Sum.inr x,Sum.inr y]=(M x y).map V.int
theorem MD.same {H H':Hp} {A:Addr} {M:Str->Str->Option Int} {c:Nat} (h:MD H A M c) (s:Aq H H'):MD H' A M c:=let ⟨kvs,a,b,d⟩:=h; ⟨kvs,s _ _ a,b,d⟩
theorem MD.get {H:Hp} {A t:Addr} {M:Str->Str->Option Int} {c:Nat} (h:MD H A M c) {x y:Str} (ht:H t=some (.tup [.str x,.str y])):Cn H A (.ref t) ((M x y).map V.int):=by
 obtain ⟨kvs,a,_,d⟩:=h;rw [<-d x y];exact Cn.t (k:=[Sum.inr x,Sum.inr y]) a ht
def KZ (M:Str->Str->Option Int) (x y:Str) (n:Int):Str->Str->Option Int:=fun a b=>if a=x/\b=y then some n else M a b
def Rc (K:ZD):Sp:=fun vs H Q _=>∃ (q:Addr) (ps:List Str) (ws:List AJ) (r x:Str),vs=[.ref q,.str x]/\J6 H q ps ws r/\(∀ u ∈ ws,1<=u.2.2)/\(∀ x y l l',BP ws x y l->BP ws x y l'->l=l')/\x ∈ ps /\
 ∀ (H':Hp) (B:Addr) (nv:List (Str × V)),Aq H H'->H B=none->H' B=some (.dK (sK nv))->nv.map (·.1)=ps->(∀ y v,(y,v) ∈ nv->∃ n,v=.int n/\KI ws x y n)->Q (.ref B) H'
end L2
namespace L2
open PySem PySem.Spec PySem.W PyProof.Rows
def wk (u:AJ):List OS:=[.s u.1,.s u.2.1,.i u.2.2]
theorem QK {H:Hp} {v:V} {u:AJ} (h:FC H v (Ee u)):L9 H (fun i=>decide (i < 2)) v/\Qf H v=wk u:=by
 obtain ⟨w,t,e1,rfl,ht⟩:=EO (i:=0) (ws:=[u]) (AE.cons h .nil) rfl;cases e1
 exists ⟨t,_,rfl,ht,by simp,fun i y e=>?_⟩
 ·unfold KH;match i,e with
  | 0,e=>cases e; simp
  | 1,e=>cases e; simp
  | 2,e=>cases e; simp
  | n + 3,e=>simp at e
 ·show (match H t with | some (.tup ys)=>ys.map LK | _=>[])=_
  rw [ht];rfl
theorem JX {H:Hp}:∀ {vs:List V} {ws:List AJ},AE H vs (ws.map Ee)->(∀ v ∈ vs,L9 H (fun i=>decide (i < 2)) v)/\vs.map (Qf H)=ws.map wk
 | _,[],.nil=>⟨(fun v hv=>nomatch hv),rfl⟩
 | _,u :: ws,.cons h r=>by
  obtain ⟨a1,a2⟩:=QK h;obtain ⟨b1,b2⟩:=JX r;refine ⟨fun v hv=>?_,by rw [ZS,ZS,a2,b2]⟩;rcases ZF.mp hv with rfl | hv
  ·exact a1
  ·exact b1 v hv
theorem Il:∀ {ns:List Int} {us:List Value},AF (ns.map V.int) us->∀ (i:Nat) (v:Value),us[i]? = some v->∃ n t,ns[i]? = some n/\v=Value.int n t
 | [],_,.nil,i,v,e=>by simp at e
 | n :: ns,_,.cons r1 r2,0,v,e=>by
  obtain ⟨t,rfl⟩:=r1;simp only [aJ,ZZ.injEq] at e;exact ⟨n,t,rfl,e.symm⟩
 | n :: ns,_,.cons r1 r2,i + 1,v,e=>by simpa using Il r2 i v (by simpa using e)
end L2
namespace L2
open PySem PySem.Spec PyProof.Rows
def A1 (a b c:Int):List V:=[.int a,.int b,.int c]
theorem Lk (a b c:Int):Gv (A1 a b c) 0=some (.int a):=rfl
theorem Ve (a b c:Int):Gv (A1 a b c) 1=some (.int b):=rfl
theorem Nv (a b c:Int):Gv (A1 a b c) 2=some (.int c):=rfl
def A6 (H:Hp) (p:Addr):Prop:=∃ a b c:Int,H p=some (.lst (A1 a b c))
theorem A6.set {H:Hp} {p:Addr} (a b c:Int):A6 (upd H p (.lst (A1 a b c))) p:=⟨a,b,c,Ab⟩
theorem A6.other {H:Hp} {p D:Addr} {o:HO} (h:A6 H p) (ne:D ≠ p):A6 (upd H D o) p:=by
 obtain ⟨a,b,c,e⟩:=h;exact ⟨a,b,c,by rw [Ae ne.symm]; exact e⟩
theorem A6.ne {H:Hp} {p q:Addr} (h:A6 H p) (e:H q=none):q ≠ p:=by
 obtain ⟨a,b,c,h⟩:=h;intro z; subst z; rw [h] at e; cases e
theorem E6 {α:Type}:∀ {ys:List α} {k:Nat} {y:α},ys[k]? = some y->(y :: ys.eraseIdx k).Perm ys
 | [],k,y,e=>by simp at e
 | x :: ys,0,y,e=>by
  simp at e;subst e;exact List.Perm.refl _
 | x :: ys,k + 1,y,e=>by
  simp at e;exact (List.Perm.swap x y _).trans ((E6 e).cons x)
theorem G9 {α β:Type} (f:α->β):∀ (ys:List α) (k:Nat),(ys.map f).eraseIdx k=(ys.eraseIdx k).map f
 | [],k=>by simp
 | x :: ys,0=>rfl
 | x :: ys,k + 1=>by
  show f x :: (ys.map f).eraseIdx k=f x :: (ys.eraseIdx k).map f
  rw [G9 f ys k]
theorem LO:∀ {ss:List Str} {us:List Value},AF (ss.map V.str) us->StrsAre us ss
 | [],_,.nil=>.nil
 | _ :: _,_,.cons r q=>by
  obtain ⟨t,rfl⟩:=r;exact .cons _ t (LO q)
theorem Ta {X:Cx}:MtM X "str.join" (fun x vs H Q=>∃ (z:Str) (a:Addr) (ss:List Str),x=.str z/\vs=[.ref a]/\H a=some (.lst (ss.map V.str))/\z.length<=16/\(ss.map (·.length)).sum + ss.length<=1048576/\Q (.str (Txt.join z ss)) H):=by
 intro pins s σ H x vs v us Q I rx rv h;obtain ⟨z,a,ss,rfl,rfl,hH,hz,hw,q⟩:=h;obtain ⟨t,rfl⟩:=rx;obtain ⟨u,rfl,ru⟩:=rv.one;cases ru
 obtain ⟨_,Av,n,r,_,e⟩:=I.lstM hH;refine join_listW (ys:=ss) ⟨_,e,rfl,n,rfl⟩ (by rw [List.toList_toArray]; exact LO r) hz hw fun t' k=>?_
 exact ⟨.str (Txt.join z ss),H,I.tok k,⟨t',rfl⟩,q⟩
theorem M8 (ss:List Str):(Txt.join (Str.ofString "") ss).cps.toList=(ss.map fun s=>s.cps.toList).flatten:=by
 unfold Txt.join;rw [PySem.StrLaws.glued_eq_join];induction ss with
 | nil=>rfl
 | cons x r ih=>
  cases r with
  | nil=>
   show x.cps.toList=_
   simp
  | cons y r=>
   have e:Str.join (Str.ofString "") (x :: y :: r)=x ++ Str.ofString "" ++ Str.join (Str.ofString "") (y :: r):=rfl;rw [e,ZS,ff,<-ih];show ((x.cps ++ #[]) ++ (Str.join (Str.ofString "") (y :: r)).cps).toList=_
   simp
theorem RJ {ss:List Str} (h:∀ s ∈ ss,s.length=1/\TL s):TL (Txt.join (Str.ofString "") ss)/\(Txt.join (Str.ofString "") ss).length=ss.length/\(ss.map (·.length)).sum=ss.length:=by
 have e:∀ l:List Str,(∀ s ∈ l,s.length=1/\TL s)->((l.map fun s=>s.cps.toList).flatten).length=l.length/\(l.map (·.length)).sum=l.length:=by
  intro l;induction l with
  | nil=>intro _; exact ⟨rfl,rfl⟩
  | cons x r ih=>
   intro h;obtain ⟨i1,i2⟩:=ih fun s hs=>h s (ZW _ hs)
   have hx:x.cps.size=1:=(h x (ae ..)).1;constructor
   ·rw [ZS,ff,ZH,i1,ag,hx,az];lia
   ·rw [ZS,aI,i2,az];show x.cps.size + r.length=r.length + 1
    lia
 refine ⟨fun c hc=>?_,?_,(e ss h).2⟩
 ·rw [M8] at hc;obtain ⟨l,hl,hcl⟩:=List.mem_flatten.mp hc;obtain ⟨s,hs,rfl⟩:=ZO.mp hl;exact (h s hs).2 c hcl
 ·show (Txt.join (Str.ofString "") ss).cps.size=_
  rw [<-ag,M8];exact (e ss h).1
theorem My {xs:List Str} {hd:List Nat} {f:Nat->List Nat} (h:∀ i x,xs[i]? = some x->∃ tl,x.cps.toList=hd ++ (f i ++ tl)) (hf:∀ i j,i < j->j < xs.length->∀ tl UH,f i ++ tl ≠ f j ++ UH):xs.Nodup:=by
 refine bC.mpr fun i j hi hj hij e=>?_
 obtain ⟨tl,h1⟩:=h i _ (Z9 hi);obtain ⟨UH,h2⟩:=h j _ (Z9 hj);rw [e,h2] at h1;exact hf i j hij hj tl UH (List.append_cancel_left h1).symm
def PJ (n:Nat) (st sp:Int) (k:Nat):List Nat:=if 26 < n then [97 + ((st + sp * k) % 26).toNat,97 + k / 26] else [97 + ((st + sp * k) % 26).toNat]
theorem Vj {n:Nat} {st sp:Int} (hn:n<=52) (hs:sp ∈ ([1,3,5,7,9,11,15,17]:List Int)) {i j:Nat} (hij:i < j) (hj:j < n) (tl UH:List Nat):PJ n st sp i ++ tl ≠ PJ n st sp j ++ UH:=by
 have key:((st + sp * i) % 26).toNat=((st + sp * j) % 26).toNat->(j - i) % 26=0:=by
  intro e;have e2:(st + sp * i) % 26=(st + sp * j) % 26:=by
   have a1:=bK (st + sp * i) (show (26:Int) ≠ 0 by decide);have a2:=bK (st + sp * j) (show (26:Int) ≠ 0 by decide);lia
  have g:Int.gcd 26 sp=1:=by
   simp only [ZF,ZI,or_false] at hs;rcases hs with rfl | rfl | rfl | rfl | rfl | rfl | rfl | rfl <;> rfl
  have d:(26:Int) ∣ sp * ((j:Int) - i):=by
   refine Int.dvd_of_emod_eq_zero ?_;have e3:sp * ((j:Int) - i)=(st + sp * j) - (st + sp * i):=by rw [Int.mul_sub]; lia
   rw [e3,Int.sub_emod,e2,Int.sub_self];rfl
  have d2:(26:Int) ∣ (j:Int) - i:=by
   rw [Int.mul_comm] at d;have e4:Nat.gcd 26 sp.natAbs=1:=g;have e5:(26:Nat) ∣ ((j:Int) - i).natAbs * sp.natAbs:=by rw [<-Int.natAbs_mul]; exact eI.mpr d
   exact eI.mp (Nat.Coprime.dvd_of_dvd_mul_right e4 e5)
  lia
 intro e;unfold PJ at e;by_cases h:26 < n
 ·rw [if_pos h,if_pos h] at e;simp only [dk,fq,cQ.injEq] at e;have:=key (by lia);lia
 ·rw [if_neg h,if_neg h] at e;simp only [dk,fq,cQ.injEq] at e;have:=key (by lia);lia
theorem Es {i:Int} (h0:0<=i) (h1:i < 26):Gv Gd.cps.toList i=some (97 + i.toNat):=by
 obtain ⟨n,rfl⟩:∃ n:Nat,i=(n:Int):=⟨i.toNat,by lia⟩
 have:∀ m:Fin 26,Gv Gd.cps.toList (m.val:Int)=some (97 + ((m.val:Int)).toNat):=by decide +kernel
 exact this ⟨n,by lia⟩
theorem len1 {α:Type} {l:List α} (h:l.length=1):∃ a,l=[a]:=List.length_eq_one_iff.mp h
theorem lenS {α:Type} {n:Nat} {l:List α} (h:l.length=n + 1):∃ a r,l=a :: r/\r.length=n:=by
 cases l with
 | nil=>cases h
 | cons a r=>exact ⟨a,r,rfl,g8.inj h⟩
theorem len2 {α:Type} {l:List α} (h:l.length=2):∃ a b,l=[a,b]:=by
 obtain ⟨a,r,rfl,hr⟩:=lenS h;obtain ⟨b,rfl⟩:=len1 hr;exact ⟨a,b,rfl⟩
theorem len3 {α:Type} {l:List α} (h:l.length=3):∃ a b c,l=[a,b,c]:=by
 obtain ⟨a,r,rfl,hr⟩:=lenS h;obtain ⟨b,c,rfl⟩:=len2 hr;exact ⟨a,b,c,rfl⟩
theorem len4 {α:Type} {l:List α} (h:l.length=4):∃ a b c d,l=[a,b,c,d]:=by
 obtain ⟨a,r,rfl,hr⟩:=lenS h;obtain ⟨b,c,d,rfl⟩:=len3 hr;exact ⟨a,b,c,d,rfl⟩
theorem len5 {α:Type} {l:List α} (h:l.length=5):∃ a b c d e,l=[a,b,c,d,e]:=by
 obtain ⟨a,r,rfl,hr⟩:=lenS h;obtain ⟨b,c,d,e,rfl⟩:=len4 hr;exact ⟨a,b,c,d,e,rfl⟩
section
variable {K:Type} [DecidableEq K] [BEq K] [LawfulBEq K]
def met (val:Nat->K) (i:Nat):List K:=((aP i).map val).foldl step_dedup []
theorem Jd (val:Nat->K) (i:Nat):met val (i + 1)=step_dedup (met val i) (val i):=by
 unfold met; rw [List.range_succ,ZG,List.foldl_append]; rfl
theorem Ph (σ:List K) (v k:K):(step_dedup σ v).any (· == k)=(σ.any (· == k) || decide (k=v)):=by
 unfold step_dedup;by_cases h:σ.any (· == v)=true
 ·rw [if_pos h];by_cases e:k=v
  ·subst e; rw [h]; simp
  ·simp [e]
 ·rw [if_neg h,List.any_append];by_cases e:k=v
  ·subst e; simp
  ·have hb:(v == k)=false:=by simpa [beq_iff_eq] using (fun h':v=k=>e h'.symm)
   simp [hb,e]
theorem FL (σ:List K) (v:K):(step_dedup σ v).length=if σ.any (· == v) then σ.length else σ.length + 1:=by
 unfold step_dedup; split <;> simp
theorem DL (val:Nat->K):∀ i,(met val i).length<=i
 | 0=>ZJ _
 | i + 1=>by
  rw [Jd,FL];have ih:=DL val i;split <;> lia
end
section
variable {prog:Program} {w:World} {A:Around} {R:Result->Shared->Prop} {I:Addr} {fp wr:List Addr} {G:Array GenState->Array GenState->Prop} {n:Nat} {P:Nat->Value->Prop} {St:Nat->Shared->Prop}
variable {K:Type} [DecidableEq K] [BEq K] [LawfulBEq K] {knd:KeyKind prog w K}
end
section
variable {prog:Program} {w:World} {A:Around} {E:Value->Shared->Prop} {s:Shared}
variable {K:Type} [DecidableEq K] [BEq K] [LawfulBEq K] {knd:KeyKind prog w K}
open PySem.F in
end
theorem M6 (ss:List Str):met (fun i=>ss.getD i (Str.ofString "")) ss.length=ss.foldl step_dedup []:=by
 unfold met;congr 1;refine dq (by simp) fun i h1 h2=>?_
 simp [ZP,Z9 h2]
theorem RI {mask finger moves:Nat} {led plain:Bool} {hs:Array Int} {t:SetTable} {o:Array Nat} (h:SetTable.laid mask finger moves led plain hs=some (t,o)):t.led=led/\t.plain=plain:=by
 unfold SetTable.laid at h;cases e:SetTable.layClean mask hs with
 | none=>rw [e] at h; cases h
 | some ow=>
  rw [e] at h;injection h with h;injection h with h1 h2;subst h1;exact ⟨rfl,rfl⟩
theorem Pu (t:SetTable) (es:Array (Int × Value)) (wanted:Nat):(relayAll t es wanted).2.1.led=t.led/\(t.plain=false->(relayAll t es wanted).2.1.plain=false):=by
 unfold relayAll;split
 ·rename_i t' order e
  have:=RI e;dsimp only;split
  ·exact ⟨this.1,fun z=>this.2.trans z⟩
  ·exact ⟨rfl,fun _=>rfl⟩
 ·exact ⟨rfl,fun _=>rfl⟩
theorem Te (t:SetTable) (es:Array (Int × Value)) (h:Int) (x:Value):(layNew t es h x).2.1.led=t.led:=by
 unfold layNew;split
 ·dsimp only;unfold SetTable.orStandIn;split <;> rfl
 ·rfl
section
variable {prog:Program} {w:World} {A:Around} {E:Value->Shared->Prop} {s:Shared}
def Tab (w:World) (es:Array (Int × Value)) (t:SetTable):Prop:=t.led=(!w.params.followText "set-order")/\(0 < es.size->t.plain=false)
def D6 (prog:Program) (w:World) (h:Heap) (a:Addr) (S:Str->Bool) (n:Nat):Prop:=
 ∃ o es ep t,h.get? a=some o/\o.ExactSet/\o.data=.set es ep t/\ElemsOf (PySem.strKind prog w) es.toList/\(∀ k,S k=true ↔ ∃ e ∈ es.toList,(PySem.strKind prog w).is k e.2=true) /\
  es.size < scanBound/\t.fits es.size=true/\es.size=n/\Tab w es t
theorem Rk {a:Addr} {S:Str->Bool} {n:Nat} {k:Str} {tk:Tok} {Q:Bool->Shared->Prop} (hS:D6 prog w s.heap a S n) (room:n + 1 < scanBound)
  (h:∀ h',Heap.SameBut a s.heap h'->D6 prog w h' a (fun k'=>S k' || decide (k'=k)) (if S k then n else n + 1)->Q (!S k) { s with heap:=h' }) :
  wpAny (model prog w) A (setAddHashed a (.str k tk) ((PySem.strKind prog w).hash k)) Q E s:=by
 obtain ⟨o,es,ep,t,ho,ex,hd,el,mem,few,fit,hn,tab⟩:=hS;have is:(PySem.strKind prog w).is k (.str k tk)=true:=by simp [PySem.strKind,Value.isStrOf]
 have sc:(Value.str k tk).scannable=true:=rfl;have V8:es.size + 1 < scanBound:=by lia
 unfold setAddHashed setAddHashedIn;refine wpAny_holding (wpAny_bind (wpAny_setState_of ho hd fit ?_));dsimp only;rw [if_pos (byScan_of sc few el)];unfold setAddByScan;refine wpAny_bind (wpAny_bind (wpAny_rule (wpAny_bind (wpAny_setScan_of is ho hd fit el ?_))));cases hr:List.findIdx? (fun e=>(PySem.strKind prog w).is k e.2) es.toList with
 | some j=>
  obtain ⟨hj,pj,_⟩:=List.findIdx?_eq_some_iff_getElem.mp hr;have there:S k=true:=(mem k).mpr ⟨es.toList[j],aN hj,pj⟩;refine wpAny_pure (wpAny_pure ?_);have q:=h s.heap (Heap.SameBut.refl a s.heap) ⟨o,es,ep,t,ho,ex,hd,el,fun k'=>?_,few,fit,by rw [there]; exact hn,tab⟩
  ·rw [there] at q; exact q
  ·rw [Bool.or_eq_true,decide_eq_true_eq,<-mem k'];exact ⟨fun z=>z.elim id fun e=>e ▸ there,.inl⟩
 | none=>
  have gone:S k=false:=by
   cases z:S k with
   | false=>rfl
   | true=>
    obtain ⟨e,he,hp⟩:=(mem k).mp z;have:=List.findIdx?_eq_none_iff.mp hr e he;rw [hp] at this;cases this
  dsimp only;have pm:=layNew_perm t es ((PySem.strKind prog w).hash k) (.str k tk);have ft:=layNew_fits t es ((PySem.strKind prog w).hash k) (.str k tk);have ld:=Te t es ((PySem.strKind prog w).hash k) (.str k tk);generalize layNew t es ((PySem.strKind prog w).hash k) (.str k tk)=L at pm ft ld ⊢;obtain ⟨JC,t1,dum,gv⟩:=L;dsimp only at pm ft ld ⊢;rw [bj] at pm;have Xm:=(el.push is sc).perm pm;have Wx:=mem_push_iff is mem pm;have z1:JC.size=n + 1:=by rw [<-ag,pm.length_eq,ZH,ag,hn]; rfl
  have V7:JC.size < scanBound:=by lia
  have fin:∀ (Q8:Array (Int × Value)) (t2:SetTable) (h':Heap) (o':Obj) (Uz:Nat),Heap.SameBut a s.heap h'->h'.get? a=some o'->o'.ExactSet->o'.data=.set Q8 Uz t2->Q8.toList.Perm JC.toList->t2.fits Q8.size=true->t2.led=t.led->t2.plain=false->Q true { s with heap:=h' }:=by
   intro Q8 t2 h' o' Uz sb g x d p f l pl;have z2:Q8.size=n + 1:=by rw [<-z1,<-ag,p.length_eq,ag]
   have q:=h h' sb ⟨o',Q8,Uz,t2,g,x,d,Xm.perm p,fun k'=>(Wx k').trans ⟨fun ⟨e,he,r⟩=>⟨e,p.mem_iff.mpr he,r⟩,fun ⟨e,he,r⟩=>⟨e,p.mem_iff.mp he,r⟩⟩,by lia,f,by rw [gone]; exact z2,l.trans tab.1,fun _=>pl⟩;rw [gone] at q;exact q
  have gw:∀ (b:Bool) {Bc:Shared} {R:Unit->Shared->Prop},R () Bc->wpAny (model prog w) A (match b with | true=>rule "set.scan.the-table-gave-way" | false=>pure ()) R E Bc:=fun b Bc R q=>by cases b <;> first | exact wpAny_pure q | exact wpAny_rule q
  refine wpAny_bind (gw gv ?_);have main:∀ t2:SetTable,t2.fits JC.size=true->t2.led=t.led->t2.plain=false->wpAny (model prog w) A (do
    storeSet a JC t2
    if (!dum && t2.tooFull)=true then do
      (match (relayAll t2 JC (SetTable.grown JC.size)).2.2 with | true=>rule "set.scan.the-table-gave-way" | false=>pure ())
      storeSet a (relayAll t2 JC (SetTable.grown JC.size)).1 (relayAll t2 JC (SetTable.grown JC.size)).2.1
      pure (some true)
     else pure (some true)) (fun r s'=>r=some true/\Q true s') E s:=by
   intro t2 f2 l2 p2;refine wpAny_bind (wpAny_storeSet_of ho hd ?_ (fits_of_scanBound V7));obtain ⟨g1,_⟩:=SetOf_store (knd:=PySem.strKind prog w) ho ex hd Xm Wx V7 f2;have sb1:=Heap.SameBut.update s.heap a (Obj.putSet JC t2);split
   ·have pr:=relayAll_perm t2 JC (SetTable.grown JC.size);have fr:=relayAll_fits t2 JC (SetTable.grown JC.size);have lr:=Pu t2 JC (SetTable.grown JC.size);generalize relayAll t2 JC (SetTable.grown JC.size)=R at pr fr lr ⊢;obtain ⟨Q8,t3,gv2⟩:=R;dsimp only at pr fr lr ⊢;have z2:Q8.size=JC.size:=by rw [<-ag,pr.length_eq,ag]
    refine wpAny_bind (gw gv2 ?_);refine wpAny_bind (wpAny_storeSet_of g1 rfl ?_ (fits_of_scanBound (by rw [z2]; exact V7)));have g2:=aE (Obj.putSet Q8 t3) g1 (by rw [putSet_of Q8 t3 rfl]; rfl);rw [putSet_of Q8 t3 rfl] at g2;exact wpAny_pure ⟨rfl,fin Q8 t3 _ _ _ (sb1.trans (Heap.SameBut.update _ a _)) g2 ex rfl pr fr (lr.1.trans l2) (lr.2 p2)⟩
   ·exact wpAny_pure ⟨rfl,fin JC t2 _ _ _ sb1 g1 ex rfl (.refl _) f2 l2 p2⟩
  by_cases pl:t1.plain=true
  ·rw [if_pos pl];refine wpAny_bind ?_;rw [hashByValue_scannable 8 sc];refine wpAny_pure ?_;refine wpAny_mono (main { t1 with plain:=false } (SetTable.fits_plain_off ft) ld rfl) (fun r s' z=>?_) fun _ _ z=>z
   obtain ⟨rfl,z⟩:=z;exact wpAny_pure z
  ·rw [if_neg pl];refine wpAny_bind (wpAny_pure ?_);refine wpAny_mono (main t1 ft ld (by simpa using pl)) (fun r s' z=>?_) fun _ _ z=>z
   obtain ⟨rfl,z⟩:=z;exact wpAny_pure z
end
section
variable {prog:Program} {w:World} {A:Around} {R:Result->Shared->Prop} {I:Addr} {fp wr:List Addr} {G:Array GenState->Array GenState->Prop} {n:Nat} {P:Nat->Value->Prop} {St:Nat->Shared->Prop}
theorem D6.kept {h h':Heap} {a:Addr} {S:Str->Bool} {n:Nat} (hS:D6 prog w h a S n) (k:∀ o,h.get? a=some o->h'.get? a=some o):D6 prog w h' a S n:=by
 obtain ⟨o,es,ep,t,ho,r⟩:=hS;exact ⟨o,es,ep,t,k _ ho,r⟩
theorem D6.as {h:Heap} {a:Addr} {S S':Str->Bool} {n n':Nat} (hS:D6 prog w h a S n) (e:∀ k,S' k=S k) (en:n'=n):D6 prog w h a S' n':=by
 subst en;have:S'=S:=funext e;rw [this];exact hS
theorem Po (W:WalksS prog w A.in1 I fp wr G n P St) (D:Addr) (hD:D ∉ fp) (val:Nat->Str) (hv:∀ i v,P i v->∃ tk,v=.str (val i) tk) (few:n + 1 < scanBound) :
  ∀ (k i:Nat) (s:Shared),n - i=k->i<=n->St i s->D6 prog w s.heap D (fun k'=>(met val i).any (· == k')) (met val i).length ->
   (∀ s',Moved (D :: wr) G s s'->D6 prog w s'.heap D (fun k'=>(met val n).any (· == k')) (met val n).length->R (.ok (.ret .none)) s') ->
   codeAny (model prog w) A (.builtin "set.update.loop" ⟨[.ref D,.ref I],[]⟩) R s:=by
 have hw:D ∉ wr:=fun z=>hD (W.sub _ z)
 have up:∀ b ∈ wr,b ∈ D :: wr:=fun b z=>ZW _ z
 intro k;induction k with
 | zero=>
  intro i s hk hi st hS q;have e:i=n:=by lia
  subst e;refine codeAny_builtin F.entry_set_update_loop ?_;rw [Around.under_plainId F.plain_set_update_loop _];refine wpAny_bind (W.done s _ _ st fun s' m=>?_);exact wpAny_pure (q s' (m.mono up) (hS.kept fun o e=>m.heap D _ hw e))
 | succ k ih=>
  intro i s hk hi st hS q;have lt:i < n:=by lia
  refine codeAny_builtin F.entry_set_update_loop ?_;rw [Around.under_plainId F.plain_set_update_loop _];refine wpAny_bind (W.item i s _ _ lt st fun v s' pv AG m=>?_);obtain ⟨tk,rfl⟩:=hv i v pv;have OI:=hS.kept (h':=s'.heap) fun o e=>m.heap D _ hw e
  refine wpAny_bind (wpAny_holding ?_);unfold setAdd;refine wpAny_holding ?_;refine wpAny_bind ((PySem.strKind prog w).pyHash (k:=val i) (by simp [PySem.strKind,Value.isStrOf]) ?_);refine Rk (s:={ s' with toks:=s'.toks + 1 }) OI (by have:=DL val i; lia) fun h' sb hS2=>?_
  have nx:D6 prog w h' D (fun k'=>(met val (i + 1)).any (· == k')) (met val (i + 1)).length:=
   hS2.as (fun k'=>by rw [Jd,Ph]) (by rw [Jd,FL])
  refine wpAny_pure ⟨plainId_quiet F.plain_set_update_loop _,ih (i + 1) _ (by lia) lt (W.frame _ s' _ _ AG (ar _) fun b z o e=>?_) nx fun UT m2 hS3=>?_⟩
  ·rw [sb.2 b fun y:b=D=>hD (y ▸ z)];exact e
  ·refine q UT (Moved.trans W.gtrans ((m.mono up).then_heap (ar _) fun b o z e=>?_) m2) hS3;rw [sb.2 b fun y:b=D=>z (y ▸ ae)];exact e
end
section
variable {prog:Program} {w:World} {A:Around} {E:Value->Shared->Prop} {s:Shared}
theorem Rj (a:Value) {Q₁:Value->Shared->Prop}
  (h:Q₁ (.ref s.heap.objs.size) { s with heap:=s.heap.push { cls:=.type "set",dict:=none,data:=.set #[] 0 (.fresh 0 0 (!w.params.followText "set-order")) } }) :
  codeAny (model prog w) A (.call (.builtin "set.__new__") ⟨[.type "set",a],[]⟩) (wants Q₁ E) s:=by
 refine codeAny_of_tree ?_;show wpAny _ A.in1 (checkBuiltinCall "set.__new__" ⟨[.type "set",a],[]⟩ >>= fun _=>again (.builtin "set.__new__" ⟨[.type "set",a],[]⟩)) _ _ s
 refine wpAny_bind (wpAny_of_eq (F.newCall_set_1 a) (wpAny_pure ⟨plainId_quiet F.plain_set_new _,codeAny_builtin F.entry_set_new ?_⟩));rw [Around.under_plainId F.plain_set_new _];unfold Builtin.«set.__new__» Builtin.Frozenset.newClass;have hsub:=sub_set_self;obtain ⟨hp,g,d,tk,os⟩:=s;dsimp only;wp_walk;refine wpAny_askSetting (wpAny_pure ?_);dsimp only;simp only [newObj];refine wpAny_bind (wpAny_alloc (wpAny_pure ?_));exact wpAny_pure h
theorem Oy {a:Addr} {T:String} {o:Obj} {oI:Obj} {items:Array Value} {val:Nat->Str} {St:Addr->Nat->Heap->Prop} {Q:Value->Shared->Prop} (hh:A.handled=none)
  (ho:s.heap.get? a=some o) (hc:o.cls=.type T) (hnd:(Value.type T == Value.type "dict")=false) (hs1:isSubtype (.type T) (.type "set")=pure false) (VW:isSubtype (.type T) (.type "frozenset")=pure false)
  (hit:∀ (B:Around) (E':Value->Shared->Prop) (s1:Shared) (Q':Value->Shared->Prop),(∀ b o,s.heap.get? b=some o->s1.heap.get? b=some o)->Q' (.ref s1.heap.objs.size) { s1 with heap:=s1.heap.push oI }->wpAny (model prog w) B (pyIter (.ref a)) Q' E' s1)
  (hW:∀ (B:Around) (I:Addr),B.handled=none->a ≠ I->Walks prog w B I [I,a] [I] items.size (fun i v=>items[i]? = some v) (St I))
  (hst:∀ h:Heap,(∀ b o,s.heap.get? b=some o->h.get? b=some o)->St h.objs.size 0 (h.push oI))
  (hi:∀ (i:Nat) v,items[i]? = some v->∃ tk,v=.str (val i) tk) (few:items.size + 1 < scanBound)
  (h:∀ (h':Heap) (tk:Nat),D6 prog w h' s.heap.objs.size (fun k'=>(met val items.size).any (· == k')) (met val items.size).length ->
   (∀ b o,s.heap.get? b=some o->h'.get? b=some o)->Q (.ref s.heap.objs.size) { s with heap:=h',toks:=tk }) :
  wpAny (model prog w) A (call (.type "set") [.ref a]) Q E s:=by
 obtain ⟨c,tl,hmro⟩:=F.called_set.mro;have hmade:=F.called_set.made;have hsub:=F.called_set.sub;refine wpAny_call (codeAny_of_tree ?_);show wpAny _ _ (callAny (.type "set") _) _ _ _
 refine wpAny_pure ⟨Code.quiet_builtin _ (by decide +kernel),codeAny_builtin F.entry_type_call ?_⟩;rw [Around.under_plain (weight_type_call_type "set" [.ref a] []) rfl];have h1:=F.called_set.notType;have h2:=F.called_set.canCreate;have hct:=F.typeCall_set_1 (.ref a);repeat (any_goals (first | assumption | wp_step))
 obtain ⟨fr,efr⟩:∃ fr:Obj,fr = { cls:=.type "set",dict:=none,data:=.set #[] 0 (.fresh 0 0 (!w.params.followText "set-order")) }:=⟨_,rfl⟩
 refine codeAny_mono (Rj (.ref a) (E:=E) (Q₁:=fun obj Bc=>obj=.ref s.heap.objs.size/\Bc = { s with heap:=s.heap.push fr }) ⟨rfl,by rw [efr]⟩) fun r Bc hr=>?_
 have gS:(s.heap.push fr).get? s.heap.objs.size=some fr:=ZM _ (by rw [efr]; rfl);have cf:fr.cls=.type "set":=by rw [efr]
 have new:∀ h5:Heap,h5.get? s.heap.objs.size=some fr->D6 prog w h5 s.heap.objs.size (fun k'=>(met val 0).any (· == k')) (met val 0).length:=fun h5 g=>
  ⟨fr,#[],0,.fresh 0 0 (!w.params.followText "set-order"),g,by rw [efr]; exact ⟨rfl,rfl,rfl⟩,by rw [efr],fun e he=>by simp at he,fun k=>by simp [met],by decide,rfl,rfl,rfl,fun z=>by simp at z⟩
 cases r with
 | error e=>exact hr
 | ok fl=>
  cases fl with
  | ret obj=>
   obtain ⟨rfl,rfl⟩:=hr;have hT:Shared.TypeIs { s with heap:=s.heap.push fr } (.ref s.heap.objs.size) "set":=⟨_,gS,cf⟩
   have hli:=F.called_set.init.lookup;have hbi:=F.called_set.init.bind (.ref s.heap.objs.size);repeat (any_goals (first | assumption | wp_step))
   refine codeAny_mono (codeAny_call_builtin (R:=wants (fun r E7=>r=.none/\∃ h' tk,E7 = { s with heap:=h',toks:=tk } /\
     D6 prog w h' s.heap.objs.size (fun k'=>(met val items.size).any (· == k')) (met val items.size).length /\
     (∀ b o,s.heap.get? b=some o->h'.get? b=some o)) E) F.called_set.init.plain F.entry_set_init (check_set_init_1 hT ?_)) fun Y9 E7 RR=>?_
   ·obtain ⟨ocls,odict,odata,oslots⟩:=o;simp only at hc;subst hc;have lt:a < s.heap.objs.size:=ZK ho;have Im:(s.heap.push fr).get? a=some { cls:=.type T,dict:=odict,data:=odata,slots:=oslots }:=ZC _ ho;subst efr;unfold Builtin.«set.__init__» noKeywords Builtin.Frozenset.updateFrom;generalize hPI:pyIter=PI;wp_walk;subst hPI;refine hit _ _ _ _ (fun b o e=>ZC _ e) ?_;refine wpAny_bind (wpAny_runValue ?_);have ne:a ≠ (s.heap.push { cls:=.type "set",dict:=none,data:=.set #[] 0 (.fresh 0 0 (!w.params.followText "set-order")) }).objs.size:=by
     rw [aA]; exact ZQ (au lt)
    have nS:s.heap.objs.size ∉ [(s.heap.push { cls:=.type "set",dict:=none,data:=.set #[] 0 (.fresh 0 0 (!w.params.followText "set-order")) }).objs.size,a]:=by
     rw [aA]; simp only [ZF,ZI,or_false,not_or];exact ⟨ZQ (aH _),aW lt⟩
    refine Po ((hW _ _ (by simp [hh]) ne).toS) s.heap.objs.size nS val hi few (items.size - 0) 0 _ (by lia) (ao _) (hst _ fun b o e=>ZC _ e) (new _ (ZC _ gS)) ?_;intro s' hm OI;obtain ⟨h',g',d',VP,YF⟩:=s';have eg:g'=s.gens:=hm.gens;have ed:d'=s.drawn:=hm.drawn;have eo:YF=s.os:=hm.os;subst eg ed eo;refine wpAny_pure ?_;refine wpAny_pure ⟨rfl,h',VP,rfl,OI,fun b o e=>?_⟩;have hb:=ZK e;have WH:b ≠ s.heap.objs.size:=ZQ hb;have hb2:b ≠ (s.heap.push { cls:=.type "set",dict:=none,data:=.set #[] 0 (.fresh 0 0 (!w.params.followText "set-order")) }).objs.size:=by
     rw [aA]; exact ZQ (au hb)
    exact hm.heap b o (by simp only [ZF,ZI,or_false,not_or]; exact ⟨WH,hb2⟩) (ZC _ (ZC _ e))
   ·cases Y9 with
    | error e=>exact RR
    | ok Xg=>
     cases Xg with
     | ret r=>
      obtain ⟨rfl,h',tk,rfl,OI,Us⟩:=RR;repeat (any_goals (first | assumption | wp_step))
      exact h _ _ OI Us
     | _=>exact RR.elim
  | _=>exact hr.elim
end
theorem Js:entryFor table "set.__iter__"=some Builtin.«frozenset.__iter__»:=
 entryFor_alias (id':="frozenset.__iter__") (by kernel_rfl) rfl (by decide +kernel) (by kernel_rfl)
theorem Cd:entryFor table "set_iterator.__next__"=some Builtin.«set_iterator.__next__»:=entryFor_of_tree (by kernel_rfl)
theorem AU:Slot "set_iterator" "__next__" "set_iterator.__next__":=
 .of (owner:="set_iterator") (n:="__next__") (by rw [typeLookup_type,builtinLookup_eq_fast]; kernel_rfl) (by decide +kernel) (by decide +kernel) (by decide +kernel)
  (by first | exact .inl (by decide +kernel) | exact .inr (by decide +kernel)) (by rw [isSubtype_type]; kernel_rfl)
theorem EC:Slot "set_iterator" "__iter__" "set_iterator.__iter__":=
 .of (owner:="set_iterator") (n:="__iter__") (by rw [typeLookup_type,builtinLookup_eq_fast]; kernel_rfl) (by decide +kernel) (by decide +kernel) (by decide +kernel)
  (by first | exact .inl (by decide +kernel) | exact .inr (by decide +kernel)) (by rw [isSubtype_type]; kernel_rfl)
theorem Cw (a:Value):argsOk "set_iterator.__next__" ⟨[a],[]⟩:=by unfold argsOk; kernel_rfl
theorem J4 (a:Value):argsOk "set_iterator.__iter__" ⟨[a],[]⟩:=by unfold argsOk; kernel_rfl
theorem HV:entryFor table "set_iterator.__iter__"=some Builtin.«dict_keyiterator.__iter__»:=
 entryFor_alias (id':="dict_keyiterator.__iter__") (by kernel_rfl) (by first | rfl | decide +kernel | (unfold String.splitOn; simp +decide [String.splitOnAux])) (by decide +kernel) (by kernel_rfl)
section
variable {prog:Program} {w:World} {A:Around} {E:Value->Shared->Prop} {s:Shared}
def D7 (x:Value) (i:Int) (a:Addr) (n ep:Nat):Obj:={ cls:=.type "set_iterator",data:=.fields #[x,.int i 0,.ref a,.int n 0,.int ep 0] }
theorem Kk {r a:Addr} {x:Value} {i:Int} {n ep:Nat} {Q:Value->Shared->Prop} (hr:s.heap.get? r=some (D7 x i a n ep)) (h:Q (.ref r) s):wpAny (model prog w) A (pyIter (.ref r)) Q E s:=by
 have hT:s.TypeIs (.ref r) "set_iterator":=⟨_,hr,rfl⟩
 refine wpAny_pyIter_slot hT EC (wpAny_call_entry EC hT HV ?_ (J4 _));show wpAny _ _ (ret (.ref r)) _ _ s
 exact wpAny_pure ⟨_,rfl,"set_iterator",_,hT,AU.lookup,h⟩
def CJ (w:World) (a:Addr) (es:Array (Int × Value)) (ep:Nat) (t:SetTable) (slot given:Nat):Option (Value × Nat):=
 if w.params.followText "set-order"=true then ((pickOrder (w.params.setOrder a ep) es)[given]?).map fun e=>(e.2,slot) else
 match es[SetTable.below t.place slot]?,t.place[SetTable.below t.place slot]? with
  | some (_,x),some j=>some (x,j + 1)
  | _,_=>none
theorem Ma {a:Addr} {o:Obj} {es:Array (Int × Value)} {ep:Nat} {t:SetTable} {slot given:Nat} {Q:Option (Value × Nat)->Shared->Prop} (ho:s.heap.get? a=some o) (hd:o.data=.set es ep t) (fit:t.fits es.size=true) (tab:Tab w es t)
  (few:w.params.followText "set-order"=false->es.size<=1) (h:Q (CJ w a es ep t slot given) s):wpAny (model prog w) A (setNext a slot given ep) Q E s:=by
 unfold setNext;refine wpAny_bind (wpAny_setState_of ho hd fit ?_);dsimp only;unfold setsByText;refine wpAny_bind (wpAny_bind (wpAny_askSetting (wpAny_pure ?_)));unfold CJ at h;show wpAny _ _ (if w.params.followText "set-order"=true then _ else _) _ _ _
 by_cases z:w.params.followText "set-order"=true
 ·rw [if_pos z] at h;rw [if_pos z,if_neg (by simp)];unfold setWalk;refine wpAny_bind (wpAny_bind (wpAny_setState_of ho hd fit ?_));dsimp only;unfold setsByText;refine wpAny_bind (wpAny_bind (wpAny_askSetting (wpAny_pure ?_)));show wpAny _ _ (if w.params.followText "set-order"=true then _ else _) _ _ _
  rw [if_pos z];refine wpAny_bind (wpAny_askSetting (wpAny_pure ?_));exact wpAny_pure h
 ·rw [if_neg z] at h;rw [if_neg z];have z':w.params.followText "set-order"=false:=by simpa using z
  have sm:=few z';show wpAny _ _ (if (!t.plain && decide (es.size > 1))=true then _ else _) _ _ _
  rw [if_neg (by simp; lia)];refine wpAny_bind ?_;show wpAny _ _ (if (!t.led && !es.isEmpty)=true then _ else _) _ _ _
  rw [if_neg (by rw [tab.1,z']; simp)];exact wpAny_pure (wpAny_pure h)
theorem Pk {r a:Addr} {slot i:Nat} {o:Obj} {es:Array (Int × Value)} {ep:Nat} {t:SetTable} {x:Value} {nx:Nat} {Q:Option Value->Shared->Prop}
  (hr:s.heap.get? r=some (D7 (.int slot 0) i a es.size ep)) (ho:s.heap.get? a=some o) (hd:o.data=.set es ep t) (fit:t.fits es.size=true) (tab:Tab w es t) (few:w.params.followText "set-order"=false->es.size<=1)
  (hx:CJ w a es ep t slot i=some (x,nx))
  (hQ:∀ h',h'.get? r=some (D7 (.int nx 0) (i + 1) a es.size ep)->Heap.SameBut r s.heap h'->Q (some x) { s with heap:=h' }) :
  wpAny (model prog w) A (pyNext (.ref r)) Q E s:=by
 have hT:s.TypeIs (.ref r) "set_iterator":=⟨_,hr,rfl⟩
 obtain ⟨hp,g,d,tk,os⟩:=s;unfold pyNext;refine wpAny_bind (wpAny_attempt (wpAny_callSpecial?_slot (name:=Str.ofString "__next__") hT AU
  (wpAny_call_entry AU hT Cd ?_ (Cw _))))
 unfold Builtin.«set_iterator.__next__»;unfold D7 at hr;repeat (any_goals (first | assumption | (refine wpAny_setEntries_of ho hd fit ?_) | (refine Ma (given:=i) (slot:=slot) ho hd fit tab few ?_) | wp_step))
 rw [show ((ep:Nat):Int).toNat=ep by simp,hx];repeat (any_goals (first | assumption | wp_step))
 refine ⟨_,rfl,wpAny_pure (hQ _ ?_ ((Heap.SameBut.update ..).trans (Heap.SameBut.update ..)))⟩;have e1:=aE (Obj.mapFields fun fs=>fs.setIfInBounds 0 (rawInt nx)) hr rfl;have e2:=aE (Obj.mapFields fun fs=>fs.setIfInBounds 1 (rawInt (i + 1))) e1 rfl;exact e2
theorem Rg {r a:Addr} {slot i:Nat} {o:Obj} {es:Array (Int × Value)} {ep:Nat} {t:SetTable} {Q:Option Value->Shared->Prop} (hh:A.handled=none)
  (hr:s.heap.get? r=some (D7 (.int slot 0) i a es.size ep)) (ho:s.heap.get? a=some o) (hd:o.data=.set es ep t) (fit:t.fits es.size=true) (tab:Tab w es t) (few:w.params.followText "set-order"=false->es.size<=1)
  (hx:CJ w a es ep t slot i=none)
  (hQ:∀ h',Heap.ExtBut r s.heap h'->Q none { s with heap:=h' }) :
  wpAny (model prog w) A (pyNext (.ref r)) Q E s:=by
 have hT:s.TypeIs (.ref r) "set_iterator":=⟨_,hr,rfl⟩
 obtain ⟨hp,g,d,tk,os⟩:=s;unfold pyNext;refine wpAny_bind (wpAny_attempt (wpAny_callSpecial?_slot (name:=Str.ofString "__next__") hT AU
  (wpAny_call_entry AU hT Cd ?_ (Cw _))))
 unfold Builtin.«set_iterator.__next__»;unfold D7 at hr;repeat (any_goals (first | assumption | (refine wpAny_setEntries_of ho hd fit ?_) | (refine Ma (given:=i) (slot:=slot) ho hd fit tab few ?_) | wp_step))
 rw [show ((ep:Nat):Int).toNat=ep by simp,hx];repeat (any_goals (first | assumption | wp_step))
 simp only [raiseNew];refine wpAny_bind (wpAny_handled ?_);rw [show A.in1.handled=none from hh];refine wpAny_bind (wpAny_pure (wpAny_throw ?_));refine wpAny_bind (wpAny_isInstance (T:="StopIteration") (b:=true) ⟨_,ZM _ rfl,rfl⟩ isSubtype_stop ?_);exact wpAny_pure (hQ _ fun b o hb e=>ZC _ (ZC _ ((Heap.SameBut.update ..).extBut b o hb e)))
end
section
variable {prog:Program} {w:World} {A:Around} {E:Value->Shared->Prop} {s:Shared}
def PK (is:List Nat) (c:Nat):Obj:={ cls:=.type "tuple",data:=.seq (is.map fun (i:Nat)=>rawInt i).toArray c }
theorem Pl {a:Addr} {o:Obj} {es:Array (Int × Value)} {ep:Nat} {t:SetTable} {j:Nat} {h:Int} {x:Value} {Q:Value->Shared->Prop} (ho:s.heap.get? a=some o) (hd:o.data=.set es ep t) (fit:t.fits es.size=true)
  (hx:es[j]? = some (h,x)) (q:Q x s):wpAny (model prog w) A (setNextDrawn a j ep) Q E s:=by
 unfold setNextDrawn;refine wpAny_bind (wpAny_setState_of ho hd fit ?_);dsimp only;rw [if_neg (by simp),hx];exact wpAny_pure q
theorem Pm {r a p:Addr} {i c:Nat} {o:Obj} {es:Array (Int × Value)} {ep:Nat} {t:SetTable} {is:List Nat} {j:Nat} {h:Int} {x:Value} {Q:Option Value->Shared->Prop}
  (hr:s.heap.get? r=some (D7 (.ref p) i a es.size ep)) (hp:s.heap.get? p=some (PK is c)) (ho:s.heap.get? a=some o) (hd:o.data=.set es ep t) (fit:t.fits es.size=true)
  (hj:is[i]? = some j) (hx:es[j]? = some (h,x))
  (hQ:∀ h',h'.get? r=some (D7 (.ref p) (i + 1) a es.size ep)->Heap.SameBut r s.heap h'->Q (some x) { s with heap:=h' }) :
  wpAny (model prog w) A (pyNext (.ref r)) Q E s:=by
 have hT:s.TypeIs (.ref r) "set_iterator":=⟨_,hr,rfl⟩
 have OH:((is.map fun (i:Nat)=>rawInt i).toArray)[i]? = some (.int j 0):=by simp [hj,rawInt]
 obtain ⟨hp,g,d,tk,os⟩:=s;unfold pyNext;refine wpAny_bind (wpAny_attempt (wpAny_callSpecial?_slot (name:=Str.ofString "__next__") hT AU
  (wpAny_call_entry AU hT Cd ?_ (Cw _))))
 unfold Builtin.«set_iterator.__next__»;unfold D7 at hr;unfold PK at hp;repeat (any_goals (first | assumption | (refine wpAny_setEntries_of ho hd fit ?_) | wp_step))
 rw [show ((i:Nat):Int).toNat=i by simp,OH];dsimp only;refine wpAny_bind (Pl (h:=h) (x:=x) ho hd fit (by simpa using hx) ?_);repeat (any_goals (first | assumption | wp_step))
 refine ⟨_,rfl,wpAny_pure (hQ _ ?_ (Heap.SameBut.update ..))⟩;exact aE (Obj.mapFields fun fs=>fs.setIfInBounds 1 (rawInt (i + 1))) hr rfl
theorem Rh {r a p:Addr} {i c:Nat} {o:Obj} {es:Array (Int × Value)} {ep:Nat} {t:SetTable} {is:List Nat} {Q:Option Value->Shared->Prop} (hh:A.handled=none)
  (hr:s.heap.get? r=some (D7 (.ref p) i a es.size ep)) (hp:s.heap.get? p=some (PK is c)) (ho:s.heap.get? a=some o) (hd:o.data=.set es ep t) (fit:t.fits es.size=true)
  (hj:is[i]? = none) (hQ:∀ h',Heap.ExtBut r s.heap h'->Q none { s with heap:=h' }) :
  wpAny (model prog w) A (pyNext (.ref r)) Q E s:=by
 have hT:s.TypeIs (.ref r) "set_iterator":=⟨_,hr,rfl⟩
 have OH:((is.map fun (i:Nat)=>rawInt i).toArray)[i]? = none:=by simpa using hj
 obtain ⟨hp,g,d,tk,os⟩:=s;unfold pyNext;refine wpAny_bind (wpAny_attempt (wpAny_callSpecial?_slot (name:=Str.ofString "__next__") hT AU
  (wpAny_call_entry AU hT Cd ?_ (Cw _))))
 unfold Builtin.«set_iterator.__next__»;unfold D7 at hr;unfold PK at hp;repeat (any_goals (first | assumption | (refine wpAny_setEntries_of ho hd fit ?_) | wp_step))
 rw [show ((i:Nat):Int).toNat=i by simp,OH];repeat (any_goals (first | assumption | wp_step))
 simp only [raiseNew];refine wpAny_bind (wpAny_handled ?_);rw [show A.in1.handled=none from hh];refine wpAny_bind (wpAny_pure (wpAny_throw ?_));refine wpAny_bind (wpAny_isInstance (T:="StopIteration") (b:=true) ⟨_,ZM _ rfl,rfl⟩ isSubtype_stop ?_);exact wpAny_pure (hQ _ fun b o hb e=>ZC _ (ZC _ ((Heap.SameBut.update ..).extBut b o hb ((Heap.SameBut.update ..).extBut b o hb e))))
theorem Nc (hh:A.handled=none) (I a:Addr) (ne:a ≠ I) {o:Obj} {es:Array (Int × Value)} {ep:Nat} {t:SetTable} (hd:o.data=.set es ep t) (fit:t.fits es.size=true) (tab:Tab w es t) (few:w.params.followText "set-order"=false->es.size<=1)
  (vs:List Value) (sl:Nat->Nat) (hs:∀ (i:Nat) (v:Value),vs[i]? = some v->CJ w a es ep t (sl i) i=some (v,sl (i + 1))) (he:CJ w a es ep t (sl vs.length) vs.length=none) :
  Walks prog w A I [I,a] [I] vs.length (fun i v=>vs[i]? = some v) (fun i h=>h.get? I=some (D7 (.int (sl i:Nat) 0) i a es.size ep)/\h.get? a=some o) where
 sub:=fun b hb=>by simp at hb; simp [hb]
 frame:=fun i h h' st k=>⟨k I (by simp) _ st.1,k a (by simp) _ st.2⟩
 item:=fun i s Q E hi st q=>by
  have e:vs[i]? = some vs[i]:=by simp [hi]
  refine Pk st.1 st.2 hd fit tab few (hs i _ e) fun h' hr sb=>q _ h' s.toks e ⟨hr,?_⟩ fun b o hb z=>?_
  ·rw [sb.2 a ne]; exact st.2
  ·rw [sb.2 b (by simpa using hb)]; exact z
 done:=fun s Q E st q=>Rg hh st.1 st.2 hd fit tab few he fun h' eb=>q h' s.toks fun b o hb z=>eb b o (by simpa using hb) z
 self:=fun i s Q E st q=>Kk st.1 q
theorem Nd (hh:A.handled=none) (I a p:Addr) (ne:a ≠ I) (np:p ≠ I) {o:Obj} {es:Array (Int × Value)} {ep c:Nat} {t:SetTable} (hd:o.data=.set es ep t) (fit:t.fits es.size=true)
  (is:List Nat) (vs:List Value) (hl:is.length=vs.length) (hs:∀ (i:Nat) (v:Value),vs[i]? = some v->∃ j h,is[i]? = some j/\es[j]? = some (h,v)) :
  Walks prog w A I [I,a,p] [I] vs.length (fun i v=>vs[i]? = some v) (fun i h=>h.get? I=some (D7 (.ref p) i a es.size ep)/\h.get? a=some o/\h.get? p=some (PK is c)) where
 sub:=fun b hb=>by simp at hb; simp [hb]
 frame:=fun i h h' st k=>⟨k I (by simp) _ st.1,k a (by simp) _ st.2.1,k p (by simp) _ st.2.2⟩
 item:=fun i s Q E hi st q=>by
  have e:vs[i]? = some vs[i]:=by simp [hi]
  obtain ⟨j,h,e1,e2⟩:=hs i _ e;refine Pm st.1 st.2.2 st.2.1 hd fit e1 e2 fun h' hr sb=>q _ h' s.toks e ⟨hr,?_,?_⟩ fun b o hb z=>?_
  ·rw [sb.2 a ne]; exact st.2.1
  ·rw [sb.2 p np]; exact st.2.2
  ·rw [sb.2 b (by simpa using hb)]; exact z
 done:=fun s Q E st q=>Rh hh st.1 st.2.2 st.2.1 hd fit (by simp [hl]) fun h' eb=>q h' s.toks fun b o hb z=>eb b o (by simpa using hb) z
 self:=fun i s Q E st q=>Kk st.1 q
theorem Jr {α:Type} {xs:List α} {i:Nat} {x:α} (h:xs[i]? = some x):(x :: xs.eraseIdx i).Perm xs:=by
 induction xs generalizing i with
 | nil=>simp at h
 | cons y ys ih=>
  cases i with
  | zero=>simp at h; subst h; exact .refl _
  | succ i=>
   simp only [bM] at h;exact (List.Perm.swap _ _ _).trans ((ih h).cons _)
theorem NQ {α:Type} (n:Nat):∀ (xs:List α) (s:Shared) (Q:List α->Shared->Prop),n=xs.length->(∀ ys dr,ys.Perm xs->Q ys { s with drawn:=dr })->wpAny (model prog w) A (drawOrder n xs) Q E s:=by
 induction n with
 | zero=>
  intro xs s Q hn h;cases xs with
  | nil=>exact wpAny_pure (h [] s.drawn (.refl _))
  | cons x xs=>simp at hn
 | succ n ih=>
  intro xs s Q hn h;cases xs with
  | nil=>simp at hn
  | cons x xs=>
   unfold drawOrder;refine wpAny_bind ?_;intro Γ p hΓ;exists by simp
   have lt:w.draws .order (s.drawn.get .order) % (x :: xs).length < (x :: xs).length:=gz _ (by simp);show wpAny (model prog w) A (match (x :: xs)[w.draws .order (s.drawn.get .order) % (x :: xs).length]? with
    | some y=>drawOrder n ((x :: xs).eraseIdx (w.draws .order (s.drawn.get .order) % (x :: xs).length)) >>= fun r=>pure (y :: r)
    | none=>unsupported "internal:drawOrder") Q E { s with drawn:=s.drawn.bump .order }
   generalize w.draws .order (s.drawn.get .order) % (x :: xs).length=i at lt;have e:(x :: xs)[i]? = some (x :: xs)[i]:=by simp
   rw [e];refine wpAny_bind (ih _ _ _ (by rw [cL]; simp only [lt,if_true]; lia) fun ys dr pm=>?_);exact wpAny_pure (h _ dr ((pm.cons _).trans (Jr e)))
theorem O5 {α:Type} (next:Nat->Nat):∀ (fuel k:Nat) (left:List α) (out:Array α),fuel=left.length->(pickOrder.go next fuel k left out).toList.Perm (out.toList ++ left)
 | 0,k,[],out,_=>by unfold pickOrder.go; simp
 | fuel + 1,k,x :: xs,out,h=>by
  unfold pickOrder.go;have lt:next k % (x :: xs).length < (x :: xs).length:=gz _ (by simp);generalize next k % (x :: xs).length=i at lt;have e:(x :: xs)[i]? = some (x :: xs)[i]:=by simp
  rw [e];refine (O5 next fuel (k + 1) _ _ (by rw [cL]; simp only [lt,if_true]; simp at h ⊢; lia)).trans ?_;rw [bj,aQ];exact (Jr e).append_left _
theorem PB {α:Type} (next:Nat->Nat) (xs:Array α):(pickOrder next xs).toList.Perm xs.toList:=by
 unfold pickOrder;simpa using O5 next xs.size 0 xs.toList #[] (by simp)
end
theorem LP:∀ {vs:List Value},(∀ v ∈ vs,∃ x t,v=Value.str x t)->∃ ks,StrsAre vs ks
 | [],_=>⟨[],.nil⟩
 | v :: vs,h=>by
  obtain ⟨x,t,rfl⟩:=h v (by simp);obtain ⟨ks,r⟩:=LP fun u hu=>h u (ZW _ hu)
  exact ⟨x :: ks,.cons x t r⟩
theorem QU {P:Program} {w:World} {vs:List Value} {ks:List Str} (h:StrsAre vs ks) (k:Str):k ∈ ks ↔ ∃ v ∈ vs,(PySem.strKind P w).is k v=true:=by
 induction h with
 | nil=>simp
 | cons x t r ih=>
  rw [ZF,ih];constructor
  ·rintro (rfl | ⟨v,hv,e⟩)
   ·exact ⟨_,ae,by simp [PySem.strKind,Value.isStrOf]⟩
   ·exact ⟨v,ZW _ hv,e⟩
  ·rintro ⟨v,hv,e⟩;rcases ZF.mp hv with rfl | hv
   ·refine .inl ?_;have e':Value.isStrOf k (.str x t)=true:=e;first | exact (eq_of_beq e').symm | exact eq_of_beq e' | exact of_decide_eq_true e' | exact (of_decide_eq_true e').symm
   ·exact .inr ⟨v,hv,e⟩
section
variable {prog:Program} {w:World} {A:Around} {E:Value->Shared->Prop} {s:Shared}
theorem Pn {a:Addr} {o:Obj} {es:Array (Int × Value)} {ep:Nat} {t:SetTable} {Q:Bool->Shared->Prop} (ho:s.heap.get? a=some o) (hd:o.data=.set es ep t) (fit:t.fits es.size=true)
  (h:Q (!w.params.followText "set-order" && (!t.plain && decide (es.size > 1))) s):wpAny (model prog w) A (setDrawn a) Q E s:=by
 unfold setDrawn;refine wpAny_bind (wpAny_setState_of ho hd fit ?_);dsimp only;unfold setsByText;exact wpAny_bind (wpAny_bind (wpAny_askSetting (wpAny_pure (wpAny_pure h))))
theorem Pp {a:Addr} {S:Str->Bool} {n:Nat} {Q:Value->Shared->Prop} (hS:D6 prog w s.heap a S n)
  (h:∀ (h':Heap) (dr:Drawn) (I:Addr) (fp:List Addr) (vs:List Value) (ks:List Str) (St:Nat->Heap->Prop),(∀ b o,s.heap.get? b=some o->h'.get? b=some o)->s.heap.objs.size<=I->(∀ b ∈ fp,b=a\/s.heap.objs.size<=b) ->
   StrsAre vs ks->(∀ k,S k=true ↔ k ∈ ks)->ks.length=n->(∀ B:Around,B.handled=none->Walks prog w B I fp [I] vs.length (fun i v=>vs[i]? = some v) St)->St 0 h'->Q (.ref I) { s with heap:=h',drawn:=dr }) :
  wpAny (model prog w) A (pyIter (.ref a)) Q E s:=by
 obtain ⟨o,es,ep,t,ho,ex,hd,el,mem,few,fit,hn,tab⟩:=hS;have lt:a < s.heap.objs.size:=ZK ho;have strE:∀ e ∈ es.toList,∃ x tk,e.2=Value.str x tk:=fun e he=>by
  obtain ⟨⟨k,hk,_⟩,_⟩:=el e he;have Us:Value.isStrOf k e.2=true:=hk;cases z:e.2 <;> rw [z] at Us <;> first | exact ⟨_,_,rfl⟩ | (simp [Value.isStrOf] at Us)
 have tx:∀ vs:List Value,vs.Perm (es.toList.map (·.2))->∃ ks,StrsAre vs ks/\(∀ k,S k=true ↔ k ∈ ks)/\ks.length=n:=fun vs pm=>by
  obtain ⟨ks,r⟩:=LP (vs:=vs) fun v hv=>by
   obtain ⟨e,he,rfl⟩:=ZO.mp (pm.mem_iff.mp hv);exact strE e he
  refine ⟨ks,r,fun k=>?_,by rw [<-r.length,pm.length_eq,ZA,ag]; exact hn⟩;rw [mem,QU (P:=prog) (w:=w) r];constructor
  ·rintro ⟨e,he,z⟩;exact ⟨e.2,pm.mem_iff.mpr (ZO.mpr ⟨e,he,rfl⟩),z⟩
  ·rintro ⟨v,hv,z⟩;obtain ⟨e,he,rfl⟩:=ZO.mp (pm.mem_iff.mp hv);exact ⟨e,he,z⟩
 have hT:s.TypeIs (.ref a) "set":=⟨o,ho,ex.1⟩
 refine wpAny_pyIter_slot hT F.slot_set_iter (wpAny_call_entry F.slot_set_iter hT Js ?_ (F.args_set_iter_1 _));unfold Builtin.«frozenset.__iter__» Builtin.Frozenset.slot0 slotArgs;simp only [List.isEmpty_nil,cx,ai,↓reduceIte,bind_assoc,fk,bne_self_eq_false];unfold Builtin.Frozenset.addrOf Builtin.Frozenset.sizeOf;refine wpAny_bind (wpAny_pure ?_);try dsimp only
 refine wpAny_bind (wpAny_pure ?_);refine wpAny_bind (wpAny_bind (wpAny_setEntries_of ho hd fit (wpAny_pure ?_)));refine wpAny_bind (Pn ho hd fit ?_);by_cases z:(!w.params.followText "set-order" && (!t.plain && decide (es.size > 1)))=true
 ·rw [if_pos z];refine wpAny_bind (NQ es.size (aP es.size) _ _ (by rw [bo]) fun is dr pm=>?_);refine wpAny_bind (wpAny_newTuple ?_ (by rw [ZA,pm.length_eq,bo]; exact fits_of_scanBound few));refine wpAny_bind (wpAny_setEpoch_of (ZC _ ho) hd fit ?_);refine wpAny_bind (wpAny_newObj_type (wpAny_pure ⟨_,rfl,"set_iterator",_,⟨_,ZM _ rfl,rfl⟩,AU.lookup,?_⟩));have rng:∀ j ∈ is,j < es.size:=fun j hj=>bO.mp (pm.mem_iff.mp hj)
  have pv:(is.map fun j=>((es[j]?).map (·.2)).getD Value.none).Perm (es.toList.map (·.2)):=by
   refine (pm.map _).trans ?_;refine List.Perm.of_eq (dq (by simp) fun i h1 h2=>?_);have:i < es.size:=by simpa using h2
   simp [this]
  obtain ⟨ks,r1,r2,r3⟩:=tx _ pv;refine h _ dr _ [(s.heap.push (PK is 0)).objs.size,a,s.heap.objs.size] _ ks _ (fun b o e=>ZC _ (ZC _ e)) (by rw [size_push']; exact ar _) (fun b hb=>?_) r1 r2 r3
   (fun B hB=>Nd hB _ a s.heap.objs.size (by rw [size_push']; exact ZQ (au lt)) (by rw [size_push']; exact ZQ (aH _)) hd fit is _ (by simp) fun i v e=>?_)
   ⟨ZM _ rfl,ZC _ (ZC _ ho),ZC _ (ZM _ rfl)⟩
  ·simp only [ZF,ZI,or_false] at hb;rcases hb with rfl | rfl | rfl
   ·exact .inr (by rw [size_push']; exact ar _)
   ·exact .inl rfl
   ·exact .inr (ZJ _)
  ·rw [ZL] at e;cases ej:is[i]? with
   | none=>rw [ej] at e; cases e
   | some j=>
    rw [ej] at e;have hj:=rng j (ZE ej);have e5:es[j]? = some es[j]:=by simp [hj]
    simp only [bG,e5,Option.getD_some,ZZ.injEq] at e;exact ⟨j,es[j].1,rfl,by rw [e5,<-e]⟩
 ·rw [if_neg z];refine wpAny_bind (wpAny_pure ?_);refine wpAny_bind (wpAny_setEpoch_of ho hd fit ?_);refine wpAny_bind (wpAny_newObj_type (wpAny_pure ⟨_,rfl,"set_iterator",_,⟨_,ZM _ rfl,rfl⟩,AU.lookup,?_⟩));have V8:w.params.followText "set-order"=false->es.size<=1:=fun q=>by
   rcases gp 1 es.size with y | y
   ·rw [q,tab.2 (by lia)] at z;simp [y] at z
   ·exact y
  have go:∀ (vs:List Value) (sl:Nat->Nat),sl 0=0->vs.Perm (es.toList.map (·.2))->(∀ (i:Nat) (v:Value),vs[i]? = some v->CJ w a es ep t (sl i) i=some (v,sl (i + 1)))->CJ w a es ep t (sl vs.length) vs.length=none ->
    Q (.ref s.heap.objs.size) { s with heap:=s.heap.push (D7 (rawInt 0) 0 a es.size ep) }:=fun vs sl s0 pm h1 h2=>by
   obtain ⟨ks,r1,r2,r3⟩:=tx _ pm;refine h _ s.drawn _ [s.heap.objs.size,a] vs ks _ (fun b o e=>ZC _ e) (ZJ _) (fun b hb=>?_) r1 r2 r3 (fun B hB=>Nc hB _ a (ZQ lt) hd fit tab V8 vs sl h1 h2) ⟨?_,ZC _ ho⟩
   ·simp only [ZF,ZI,or_false] at hb;rcases hb with rfl | rfl
    ·exact .inr (ZJ _)
    ·exact .inl rfl
   ·rw [s0]; exact ZM _ rfl
  by_cases ft:w.params.followText "set-order"=true
  ·refine go ((pickOrder (w.params.setOrder a ep) es).toList.map (·.2)) (fun _=>0) rfl ((PB _ es).map _) (fun i v e=>?_) ?_
   ·unfold CJ;rw [if_pos ft];rw [ZL,aX] at e;cases y:(pickOrder (w.params.setOrder a ep) es)[i]? with
    | none=>rw [y] at e; cases e
    | some x=>rw [y] at e; cases e; rfl
   ·unfold CJ;rw [if_pos ft];simp
  ·have sm:=V8 (by simpa using ft);refine go (es.toList.map (·.2)) (fun i=>if i=0 then 0 else t.place.getD 0 0 + 1) rfl (.refl _) (fun i v e=>?_) ?_
   ·unfold CJ;rw [if_neg ft];have i0:i < es.size:=by
     have:=(ZN.mp e).1;simpa using this
    have z1:es.size=1:=by lia
    have i1:i=0:=by lia
    subst i1;obtain ⟨x,rfl⟩:∃ x,es=#[x]:=⟨es[0],dO (by simpa using z1) fun j a1 a2=>by
     have:j=0:=by lia
     subst this; rfl⟩
    have pz:t.place.size=1:=by
     simp only [SetTable.fits,aB,beq_iff_eq] at fit;exact fit.1
    obtain ⟨y,ey⟩:∃ y,t.place=#[y]:=⟨t.place[0],dO (by simpa using pz) fun j a1 a2=>by
     have:j=0:=by lia
     subst this; rfl⟩
    rw [ey];simp at e;subst e;rfl
   ·unfold CJ;rw [if_neg ft];rcases Nat.eq_zero_or_pos es.size with z0 | z0
    ·have:es=#[]:=Array.eq_empty_of_size_eq_zero z0;subst this;rfl
    ·have z1:es.size=1:=by lia
     obtain ⟨x,rfl⟩:∃ x,es=#[x]:=⟨es[0],dO (by simpa using z1) fun j a1 a2=>by
      have:j=0:=by lia
      subst this; rfl⟩
     have pz:t.place.size=1:=by
      simp only [SetTable.fits,aB,beq_iff_eq] at fit;exact fit.1
     obtain ⟨y,ey⟩:∃ y,t.place=#[y]:=⟨t.place[0],dO (by simpa using pz) fun j a1 a2=>by
      have:j=0:=by lia
      subst this; rfl⟩
     rw [ey];simp [SetTable.below,SetTable.below.go]
end
section
variable {prog:Program} {w:World} {A:Around} {E:Value->Shared->Prop} {s:Shared}
theorem Ri {r:Addr} {Q:Bool->Shared->Prop} (hT:s.TypeIs (.ref r) "set") (h:∀ b,Q b s):wpAny (model prog w) A (Builtin.List.listLengthHint (.ref r)) Q E s:=by
 unfold Builtin.List.listLengthHint;refine wpAny_bind (wpAny_specialOf hT PySem.F.slot_set_len.lookup ?_);generalize hid:("set.__len__":String)=id0;wp_delta;rw [show splitId id0=some ("set","__len__") from by subst hid; decide +kernel];subst hid;refine wpAny_bind (wpAny_isInstance (T:="set") (b:=true) hT (by rw [isSubtype_type]; kernel_rfl) ?_);refine wpAny_ite_split (fun z=>absurd z (by decide)) (fun _=>?_);refine wpAny_ite_split (fun _=>?_) (fun z=>absurd (by decide +kernel) z);refine wpAny_bind (wpAny_typeOf hT ?_);exact wpAny_pure (h _)
theorem KY {a:Addr} {S:Str->Bool} {n:Nat} {R:List Value->Shared->Prop} (hh:A.handled=none) (hS:D6 prog w s.heap a S n)
  (h:∀ (h':Heap) (tk:Nat) (dr:Drawn) (vs:List Value) (ks:List Str),(∀ b o,s.heap.get? b=some o->h'.get? b=some o)->StrsAre vs ks->(∀ k,S k=true ↔ k ∈ ks)->ks.length=n->R vs { s with heap:=h',toks:=tk,drawn:=dr }) :
  wpAny (model prog w) A (collect (.ref a)) R E s:=by
 have hn:n < scanBound:=by obtain ⟨o,es,ep,t,ho,ex,hd,el,mem,few,fit,hn,tab⟩:=hS; lia
 have Zh:n<=sizeLine:=fits_of_scanBound hn;have lt:a < s.heap.objs.size:=by obtain ⟨o,es,ep,t,ho,r⟩:=hS; exact ZK ho
 unfold collect;refine wpAny_bind (wpAny_runValue (codeAny_builtin entry_proto_collect' ?_));rw [Around.under_plainId PySem.F.plain_proto_collect _];show wpAny _ A.in1 (newList [] >>= fun l=>again (.builtin "list.__iadd__" ⟨[l,.ref a],[]⟩)) _ _ s
 refine wpAny_bind (wpAny_newObj_type ?_);refine wpAny_pure ⟨plainId_quiet PySem.F.plain_list_iadd _,codeAny_builtin entry_list_iadd' ?_⟩;rw [Around.under_plainId PySem.F.plain_list_iadd _];have e1:(s.heap.push { cls:=.type "list",data:=.seq ([]:List Value).toArray }).get? s.heap.objs.size=some { cls:=.type "list",data:=.seq #[] }:=ZM _ rfl;show wpAny _ A.in1 (Builtin.List.listExtendWith (.ref s.heap.objs.size) (.ref a) (.ref s.heap.objs.size)) _ _ _
 have WR:D6 prog w (s.heap.push { cls:=.type "list",data:=.seq ([]:List Value).toArray }) a S n:=hS.kept fun o e=>ZC _ e
 unfold Builtin.List.listExtendWith;have hT:Shared.TypeIs { s with heap:=s.heap.push { cls:=.type "list",data:=.seq ([]:List Value).toArray } } (.ref a) "set":=by
  obtain ⟨o,es,ep,t,ho,ex,r⟩:=WR;exact ⟨o,ho,ex.1⟩
 refine wpAny_bind (wpAny_typeOf hT ?_);have e2:Builtin.List.listSameRef (.ref s.heap.objs.size) (.ref a)=false:=by simp [Builtin.List.listSameRef,aW lt]
 have e3:(Value.type "set" == Value.type "list")=false:=by decide
 have e4:(Value.type "set" == Value.type "tuple")=false:=by decide
 simp only [e2,e3,e4,fY,ai,if_false];refine wpAny_bind (Pp WR fun h1 dr I fp vs ks St kk hI hfp sv mem len hW st=>?_);have k1:∀ b o,s.heap.get? b=some o->h1.get? b=some o:=fun b o e=>kk b o (ZC _ e)
 have eS:=kk _ _ e1;have Tq:Shared.TypeIs { s with heap:=h1,drawn:=dr } (.ref a) "set":=by
  obtain ⟨o,es,ep,t,ho,ex,r⟩:=hS;exact ⟨o,k1 _ _ ho,ex.1⟩
 have szI:(s.heap.push { cls:=.type "list",data:=.seq ([]:List Value).toArray }).objs.size=s.heap.objs.size + 1:=size_push' ..;have nf:s.heap.objs.size ∉ fp:=fun z=>by
  rcases hfp _ z with e | e
  ·exact absurd e (aW lt)
  ·rw [szI] at e; exact absurd e (Nat.not_le_of_lt (aH _))
 have vl:vs.length=n:=by rw [sv.length]; exact len
 have key:∀ (h2:Heap) (c tk:Nat),St 0 h2->(∀ b o,b ≠ s.heap.objs.size->h1.get? b=some o->h2.get? b=some o)->h2.get? s.heap.objs.size=some { cls:=.type "list",data:=.seq #[] c } ->
   codeAny (model prog w) A (.builtin "list.extend.loop" ⟨[.ref s.heap.objs.size,.ref I,.ref s.heap.objs.size],[]⟩) (fun (q:Result) (s':Shared)=>∃ (h':Heap) (tk:Nat) (acc:Array Value) (c':Nat),q=.ok (.ret (.ref s.heap.objs.size))/\s' = { s with heap:=h',toks:=tk,drawn:=dr } /\
    (∀ b o,s.heap.get? b=some o->h'.get? b=some o)/\h'.get? s.heap.objs.size=some { cls:=.type "list",dict:=none,data:=.seq acc c',slots:=#[] }/\ItemsOf (fun i v=>vs[i]? = some v) acc vs.length) { s with heap:=h2,toks:=tk,drawn:=dr }:=by
  intro h2 c tk Gx k2 g2;refine codeAny_extend_loopS (hW _ (by simp [hh])).toS (by rw [vl]; exact Zh) s.heap.objs.size nf (.ref s.heap.objs.size) vs.length 0 _ #[] c rfl (ao _) Gx g2 (ItemsOf.nil _) fun s' acc c' m g' ia=>?_
  refine ⟨s'.heap,s'.toks,acc,c',rfl,?_,fun b o e=>?_,g',ia⟩
  ·rw [Moved.eq_with m]
  ·have lb:=ZK e;refine m.heap b o (fun z=>?_) (k2 b o (ZQ lb) (k1 b o e));rcases ZF.mp z with y | y
   ·exact ZQ lb y
   ·rw [aa.mp y] at lb;rw [szI] at hI;exact absurd lb (Nat.not_lt_of_le (Nat.le_of_succ_le hI))
 refine wpAny_mono (Q:=fun fin s'=>match fin with | .done f=>False | .again c'=>c'.quiet=true/\codeAny (model prog w) A c' (fun (q:Result) (s':Shared)=>∃ (h':Heap) (tk:Nat) (acc:Array Value) (c':Nat),q=.ok (.ret (.ref s.heap.objs.size))/\s' = { s with heap:=h',toks:=tk,drawn:=dr } /\
    (∀ b o,s.heap.get? b=some o->h'.get? b=some o)/\h'.get? s.heap.objs.size=some { cls:=.type "list",dict:=none,data:=.seq acc c',slots:=#[] }/\ItemsOf (fun i v=>vs[i]? = some v) acc vs.length) s') (E:=fun _ _=>False) ?_ (fun fin s' x=>?_) fun e s' x=>x.elim
 ·refine wpAny_bind (wpAny_holding (Ri Tq fun b=>?_));refine wpAny_ite_split (fun _=>?_) (fun _=>wpAny_pure ⟨plainId_quiet PySem.F.plain_extend_loop _,key _ _ _ st (fun b o _ e=>e) eS⟩);refine wpAny_bind (wpAny_rule ?_);refine wpAny_bind ?_;show wpAny _ _ (updateSeq s.heap.objs.size (·.push .none) >>= fun _=>updateSeq s.heap.objs.size (·.pop)) _ _ _
  refine wpAny_bind (wpAny_updateSeq eS rfl ?_);have eS2:=aE (Obj.mapSeq (·.push Value.none)) eS rfl;refine wpAny_updateSeq (hz:=by seq_fits) eS2 rfl ?_;have eS3:=aE (Obj.mapSeq (·.pop)) eS2 rfl;have oth:∀ b o,b ≠ s.heap.objs.size->h1.get? b=some o->((h1.update s.heap.objs.size (Obj.mapSeq (·.push Value.none))).update s.heap.objs.size (Obj.mapSeq (·.pop))).get? b=some o:=fun b o hb e=>
   (ax _ _ (Ne.symm hb)).trans ((ax _ _ (Ne.symm hb)).trans e)
  refine wpAny_pure ⟨plainId_quiet PySem.F.plain_extend_loop _,key _ _ _ ?_ oth eS3⟩;exact (hW A (by simp [hh])).frame 0 _ _ st fun b hb o e=>oth b o (fun z=>nf (z ▸ hb)) e
 ·cases fin with
  | done f=>exact x.elim
  | again c₁=>
   refine ⟨x.1,codeAny_mono x.2 fun q E7 y=>?_⟩;obtain ⟨h',tk,acc,c',rfl,rfl,hk,OI,ia⟩:=y;show wpAny _ A (load s.heap.objs.size >>= _) _ _ _
   refine wpAny_bind (wpAny_load OI ?_);have:acc.toList=vs:=dq (by rw [ag]; exact ia.1) fun i h1 h2=>by
    have h3:i < acc.size:=by simpa using h1
    have this:vs[i]? = some acc[i]:=ia.2 i acc[i] (by simp [h3]);rw [Z9 h2] at this;simpa using (ZZ.inj this).symm
   refine wpAny_pure ?_;have q:=h h' tk dr vs ks hk sv mem len;rw [<-this] at q;exact q
theorem LZ {a:Addr} {S:Str->Bool} {n:Nat} {Q:Value->Shared->Prop} (hh:A.handled=none) (hS:D6 prog w s.heap a S n) (Xe:n < 64)
  (h:∀ (h':Heap) (tk:Nat) (dr:Drawn) (l:Addr) (us:List Value) (e:Nat) (ss ks:List Str),(∀ b o,s.heap.get? b=some o->h'.get? b=some o)->s.heap.get? l=none->h'.get? l=some (seqObj "list" us.toArray e)->StrsAre us ss->ss.Perm ks->sortedS ss=true ->
   (∀ k,S k=true ↔ k ∈ ks)->ks.length=n->Q (.ref l) { s with heap:=h',toks:=tk,drawn:=dr }) :
  wpAny (model prog w) A (call (.builtin "sorted") [.ref a]) Q E s:=by
 refine Calls.call_function_entry kind_sorted plain_sorted entry_sorted (args_sorted1 _) ?_;unfold Builtin.«sorted»;refine wpAny_bind (m:=checkCount "sorted" 1 1 _) (wpAny_pure ?_);refine wpAny_bind (KY (A:=A.in1) hh hS fun h' tk dr vs ks hk sv mem len=>?_);have hl:vs.length=n:=by rw [sv.length]; exact len
 refine wpAny_bind (wpAny_newList ?_ (aj (show vs.length<=64 by lia) (by decide)));have g:(h'.push (seqObj "list" vs.toArray 0)).get? h'.objs.size=some (seqObj "list" vs.toArray 0):=ZM _ rfl;show wpAny _ _ _ _ _ { s with heap:=h'.push (seqObj "list" vs.toArray 0),toks:=tk,drawn:=dr }
 refine wpAny_bind (wpAny_holding (wpAny_call_entry slot_list_sort ⟨_,g,rfl⟩ entry_list_sort (list_sort_treeK strKind_oneLt (s:={ s with heap:=h'.push (seqObj "list" vs.toArray 0),toks:=tk,drawn:=dr }) g sv.keysOf (fun Yv Yu rest e=>keyKind_strs (by rw [<-e]; exact sv)) (by rw [hl]; exact Xe) fun AG a1 a2=>⟨_,rfl,?_⟩) (args_list_sort _)));refine wpAny_pure ⟨_,rfl,?_⟩;obtain ⟨ss,b1,b2,b3⟩:=sorted_out_str sv a1 a2;obtain ⟨e,he⟩:=sortedHeap_at (out:=(arrOf AG).map (·.2)) g;refine h _ tk dr h'.objs.size ((arrOf AG).map (·.2)).toList e ss ks (fun b o q=>?_) ?_ (by rw [Array.toArray_toList]; exact he) b1 b2 b3 mem len
 ·have q':=hk b o q;have lt:=ZK q';rw [sortedHeap_old (ZQ lt) (by rw [size_push']; exact au lt)];exact ZC _ q'
 ·cases z:s.heap.get? h'.objs.size with
  | none=>rfl
  | some o=>exact absurd (ZK (hk _ _ z)) (aO _)
end
def SetW (P:Program) (w:World) (a:Addr) (S:Str->Bool) (n:Nat):HO:=.ext fun h=>D6 P w h a S n
theorem JJ:isSubtype (.type "tuple") (.type "set")=pure false:=by rw [isSubtype_type]; kernel_rfl
theorem Fm:isSubtype (.type "tuple") (.type "frozenset")=pure false:=by rw [isSubtype_type]; kernel_rfl
def setS (P:Program) (w:World) (a:Addr) (ss:List Str):HO:=SetW P w a (fun k=>(ss.foldl step_dedup []).any (· == k)) (ss.foldl step_dedup []).length
theorem SE {X:Cx} {pins:List (Addr × Obj)} {σ:St} {H:Hp} {s:Shared} (I:Au X pins σ H s) {h':Heap} {tk:Nat} {ss:List Str} (hS:D6 X.prog X.w h' s.heap.objs.size (fun k=>(ss.foldl step_dedup []).any (· == k)) (ss.foldl step_dedup []).length)
  (kk:∀ b o,s.heap.get? b=some o->h'.get? b=some o):Au X pins σ (upd H s.heap.objs.size (setS X.prog X.w s.heap.objs.size ss)) { s with heap:=h',toks:=tk }:=by
 obtain ⟨oS,e1,e2,e3,hoS,rest⟩:=id hS;refine I.laid (a:=s.heap.objs.size) (o:=setS X.prog X.w s.heap.objs.size ss) (t':=tk) kk (ZJ _) ⟨hS,⟨_,hoS⟩,fun h1 h2 z st=>?_⟩;exact z.kept fun o e=>st _ e
theorem ML (K:ZD) {X:Cx} (hK:X.K=K) (hc:X.calm=true):Bn X (.type "set") (fun xs H Q=>∃ (a:Addr) (ss:List Str),xs=[.ref a]/\(AZ K H a (ss.map V.str)\/Ay K H a (ss.map V.str))/\ss.length<=1000 /\
  ∀ D,H D=none->Q (.ref D) (upd H D (setS X.prog X.w D ss))):=by
 subst hK;intro pins s σ H xs us Q I r h;obtain ⟨a,ss,rfl,ha,hl,q⟩:=h;obtain ⟨u,rfl,ru⟩:=Cj r;cases ru
 have txt:∀ Av:List Value,AF (ss.map V.str) Av->∀ (i:Nat) v,Av.toArray[i]? = some v->∃ tk,v=.str (ss.getD i (Str.ofString "")) tk:=fun Av rv i v e=>by
  have il:Av.length=ss.length:=by rw [<-rv.length,ZA]
  have e':Av[i]? = some v:=by simpa using e
  have hi:i < Av.length:=(ZN.mp e').1;have e3:(ss.map V.str)[i]? = some (.str ss[i]):=by rw [ZL,Z9 (by lia)]; rfl
  obtain ⟨v',e4,r4⟩:=rv.get e3;rw [e'] at e4;cases e4
  obtain ⟨t,rfl⟩:=r4;exact ⟨t,by simp [ZP,Z9 (show i < ss.length by lia)]⟩
 have fin:∀ Av:List Value,AF (ss.map V.str) Av->∀ (h':Heap) (tk:Nat),D6 X.prog X.w h' s.heap.objs.size (fun k'=>(met (fun i=>ss.getD i (Str.ofString "")) Av.toArray.size).any (· == k')) (met (fun i=>ss.getD i (Str.ofString "")) Av.toArray.size).length ->
   (∀ b o,s.heap.get? b=some o->h'.get? b=some o)->∃ v H',Au X pins σ H' { s with heap:=h',toks:=tk }/\AM v (.ref s.heap.objs.size)/\Q v H':=fun Av rv h' tk hS kk=>by
  have es:Av.toArray.size=ss.length:=by rw [ZU,<-rv.length,ZA]
  rw [es,M6] at hS;exact ⟨.ref s.heap.objs.size,_,SE I hS kk,rfl,q _ (I.hok.fresh (ZJ _))⟩
 have bnd:∀ Av:List Value,AF (ss.map V.str) Av->Av.toArray.size + 1 < scanBound:=fun Av rv=>by
  rw [ZU,<-rv.length,ZA];unfold scanBound;lia
 rcases ha with ha | ha
 ·obtain ⟨Av,rv,pl,hz⟩:=I.list ha;have il:=pl.isList;obtain ⟨o,ho,hcl,n,hdat⟩:=id il;refine Oy (items:=Av.toArray) (val:=fun i=>ss.getD i (Str.ofString "")) (St:=fun I' i h=>h.IsListIter I' a i/\h.IsList a Av.toArray) (I.ok.hd hc) ho hcl (by decide) F.sub_list_set F.sub_list_frozenset
   (fun B E' s1 Q' k q'=>wpAny_pyIter_list ⟨o,k _ _ ho,hcl,n,hdat⟩ q') (fun B I' hB ne=>Walks.list hB I' a ne Av.toArray) (fun h k=>⟨⟨_,ZM _ rfl,rfl,rfl⟩,⟨o,ZC _ (k _ _ ho),hcl,n,hdat⟩⟩) (txt Av rv) (bnd Av rv) fun h' tk hS kk=>?_
  exact fin Av rv h' tk hS kk
 ·obtain ⟨Av,rv,pl,hz⟩:=I.tuple ha;obtain ⟨o,ho,hcl,n,hdat⟩:=id pl;refine Oy (items:=Av.toArray) (val:=fun i=>ss.getD i (Str.ofString "")) (St:=fun I' i h=>h.IsTupleIter I' a i/\h.IsTuple a Av.toArray) (I.ok.hd hc) ho hcl (by decide) JJ Fm
   (fun B E' s1 Q' k q'=>wpAny_pyIter_tuple ⟨o,k _ _ ho,hcl,n,hdat⟩ q') (fun B I' hB ne=>Walks.tuple hB I' a ne Av.toArray) (fun h k=>⟨⟨_,ZM _ rfl,rfl,rfl⟩,⟨o,ZC _ (k _ _ ho),hcl,n,hdat⟩⟩) (txt Av rv) (bnd Av rv) fun h' tk hS kk=>?_
  exact fin Av rv h' tk hS kk
theorem F8 (k:Str):∀ (ss σ:List Str),k ∈ ss.foldl step_dedup σ ↔ k ∈ σ\/k ∈ ss
 | [],σ=>by simp
 | x :: xs,σ=>by
  rw [dy,F8 k xs];have:k ∈ step_dedup σ x ↔ k ∈ σ\/k=x:=by
   unfold step_dedup;split
   ·rename_i h
    rw [bQ] at h;obtain ⟨y,hy,e⟩:=h;have e:=eq_of_beq e;subst e;exact ⟨.inl,fun z=>z.elim id fun e=>e ▸ hy⟩
   ·simp
  rw [this,ZF];exact or_assoc
theorem Ew:∀ (ss σ:List Str),σ.Nodup->(ss.foldl step_dedup σ).Nodup
 | [],σ,h=>h
 | x :: xs,σ,h=>by
  rw [dy];refine Ew xs _ ?_;unfold step_dedup;split
  ·exact h
  ·rename_i hn
   refine ba.mpr ⟨h,by simp,fun a ha b hb e=>hn ?_⟩;rw [aa] at hb;subst hb e;exact bQ.mpr ⟨_,ha,by simp⟩
theorem Mj:∀ {l m:List Str},l.Nodup->(∀ x ∈ l,x ∈ m)->∃ r,m.Perm (l ++ r)
 | [],m,_,_=>⟨m,.refl _⟩
 | x :: l,m,nd,h=>by
  rw [aM] at nd;have p:=List.perm_cons_erase (h x (by simp));obtain ⟨r,pr⟩:=Mj (m:=m.erase x) nd.2 fun y hy=>(eF (fun e:y=x=>nd.1 (e ▸ hy))).mpr (h y (ZW _ hy))
  exact ⟨r,p.trans (pr.cons _)⟩
theorem Rz {l m:List Str} (nd:l.Nodup) (h:∀ x ∈ l,x ∈ m) (e:m.length=l.length):m.Perm l:=by
 obtain ⟨r,p⟩:=Mj nd h;have:=p.length_eq;rw [ZH] at this;have:r=[]:=c0.mp (by lia);subst this;simpa using p
theorem Au.drew {X:Cx} {pins:List (Addr × Obj)} {σ:St} {H:Hp} {s:Shared} (I:Au X pins σ H s) (dr:Drawn):Au X pins σ H { s with drawn:=dr }:=
 ⟨I.ok,I.os,I.bare,I.base,I.loc,I.cell,I.free,I.freeC,I.pin,I.hok,I.len⟩
theorem HX {X:Cx} (hc:X.calm=true):Bn X (.builtin "sorted") (fun xs H Q=>∃ (a:Addr) (ss:List Str),xs=[.ref a]/\H a=some (setS X.prog X.w a ss)/\ss.length < 64 /\
  ∀ (l:Addr) (DS:List Str),H l=none->DS.Nodup->(∀ k,k ∈ DS ↔ k ∈ ss)->sortedS DS=true->Q (.ref l) (upd H l (.lst (DS.map V.str)))):=by
 intro pins s σ H xs us Q I r h;obtain ⟨a,ss,rfl,ha,Xe,q⟩:=h;obtain ⟨u,rfl,ru⟩:=Cj r;cases ru
 have hS:D6 X.prog X.w s.heap a (fun k=>(ss.foldl step_dedup []).any (· == k)) (ss.foldl step_dedup []).length:=(I.hok a _ ha).1;have few:(ss.foldl step_dedup []).length<=ss.length:=by rw [<-M6]; exact DL _ _
 refine LZ (I.ok.hd hc) hS (by lia) fun h' tk dr l us e DS ks k1 k2 k3 k4 k5 k6 k7 k8=>?_
 obtain ⟨m,hlm⟩:=id I.loc;obtain ⟨oL,esL,epL,hoL,rL⟩:=id hlm.1;have fl:H l=none:=by
  cases z:H l with
  | none=>rfl
  | some u=>
   obtain ⟨ob,e⟩:=AV.there (I.hok l u z);rw [k2] at e;cases e
 have mk:∀ k,k ∈ ks ↔ k ∈ ss:=fun k=>by
  rw [<-k7,bQ];have:=F8 k ss [];constructor
  ·rintro ⟨x,hx,e⟩;have e:=eq_of_beq e;subst e;exact (this.mp hx).resolve_left (by simp)
  ·intro z;exact ⟨k,this.mpr (.inr z),by simp⟩
 have pm:ks.Perm (ss.foldl step_dedup []):=Rz (Ew ss [] dG) (fun x hx=>(mk x).mpr (((F8 x ss []).mp hx).resolve_left (by simp))) k8;have I2:=I.laidF (h2:=h') (D:=l) (o:=.lst (DS.map V.str)) hlm ⟨oL,esL,epL,k1 _ _ hoL,rL⟩ (fun b ob _ q=>k1 b ob q) k2 (fun z=>by rw [z,hoL] at k2; cases k2)
  ⟨by rw [ZA,k5.length_eq,k8,sizeLine_eq]; lia,us,e,Ij k4,k3⟩
 exact ⟨.ref l,_,(I2.kept (t':=tk) fun b u q=>q).drew dr,rfl,q l DS fl (k5.nodup_iff.mpr (pm.nodup_iff.mpr (Ew ss [] dG))) (fun k=>k5.mem_iff.trans (mk k)) k6⟩
end L2
namespace L2
open PySem PySem.W PyProof.Rows
section
variable {prog:Program} {w:World} {A:Around} {E:Value->Shared->Prop} {s:Shared} {κ:SortKind} {lt:Keyed->Keyed->Bool} {a0:Array Keyed}
theorem EB {ρ:Type} {body:Nat->Option ρ × Nat × Nat->StateT SortSt Sem (ForInStep (Option ρ × Nat × Nat))} {n lo hi:Nat} {st:SortSt}
  (hs:∀ x l (R:ForInStep (Option ρ × Nat × Nat)->SortSt->Prop),R (.done (none,l,l)) st->wpS (model prog w) A E s (body x (none,l,l)) R st)
  (hg:∀ x l r (R:ForInStep (Option ρ × Nat × Nat)->SortSt->Prop),l < r->r<=n ->
   (R (.yield (none,l + (r - l) / 2 + 1,r)) st)->(R (.yield (none,l,l + (r - l) / 2)) st)->wpS (model prog w) A E s (body x (none,l,r)) R st)
  (hl:lo<=hi) (hn:hi<=n) :
  wpS (model prog w) A E s (forIn [0:n] (none,lo,hi) body) (fun c AG=>AG=st/\∃ r,c=(none,r,r)/\r<=n) st:=by
 refine wpS_forRange (I:=fun x c AG=>AG=st/\∃ l r,c=(none,l,r)/\l<=r/\r<=n/\r - l<=n - x) ?_ ?_ ⟨rfl,lo,hi,rfl,hl,hn,by lia⟩
 ·rintro x c AG _ hx ⟨rfl,l,r,rfl,q1,q2,q3⟩;by_cases hlr:l < r
  ·exact hg _ _ _ _ hlr q2 ⟨rfl,_,r,rfl,by lia,by lia,by lia⟩ ⟨rfl,l,_,rfl,by lia,by lia,by lia⟩
  ·have:l=r:=by lia
   subst this;exact hs _ _ _ ⟨rfl,l,rfl,q2⟩
 ·rintro c AG ⟨rfl,l,r,rfl,q1,q2,q3⟩;have:l=r:=by lia
  subst this;exact ⟨rfl,l,rfl,q2⟩
theorem Ci {left:Bool} {key:Keyed} {arr:Array Keyed} {base n hint:Nat} {Q:Option Nat->SortSt->Prop} {st:SortSt} (an:Q2 prog w A s κ lt a0) (hk:kindOf st=κ)
  (hkey:key ∈ a0) (harr:∀ i,i < n->Bq arr (base + i) ∈ a0) (hb:base + n<=arr.size) (hh:hint < n)
  (h:∀ k,k<=n->Q (some k) st) :
  wpS (model prog w) A E s (Tt left key arr base n hint) Q st:=by
 have ha:∀ i (R:Option Bool->SortSt->Prop),i < n->R (some (U0 lt left key (Bq arr (base + i)))) st->wpS (model prog w) A E s (VF left key arr base i) R st:=
  fun i R hi hr=>QH an hk hkey (harr i hi) (by lia) hr
 refine wpS_bind (ha hint _ hh ?_);dsimp only;cases e:U0 lt left key (Bq arr (base + hint))
 ·simp only [ai,if_false];refine wpS_bind (wpS_mono (wpS_forRange (I:=fun x c AG=>AG=st/\∃ l o,c=(none,l,o)/\l<=hint/\l < o/\x + 1<=o)
   (Q:=fun c AG=>AG=st/\∃ l o,c=(none,l,o)/\l<=hint/\l < o) ?_ ?_ ⟨rfl,0,1,rfl,by lia,by lia,by lia⟩) ?_)
  ·rintro x c AG _ hx ⟨rfl,l,o,rfl,q1,q2,q3⟩;dsimp only;by_cases ho:o >= hint + 1
   ·rw [if_pos ho];exact wpS_pure ⟨rfl,l,o,rfl,q1,q2⟩
   ·rw [if_neg ho];refine wpS_bind (ha _ _ (by lia) ?_);cases e2:U0 lt left key (Bq arr (base + (hint - o)))
    ·simp only [ai,if_false];exact wpS_pure ⟨rfl,o,_,rfl,by lia,by lia,by lia⟩
    ·simp only [if_true];exact wpS_pure ⟨rfl,l,o,rfl,q1,q2⟩
  ·rintro c AG ⟨rfl,l,o,rfl,q1,q2,q3⟩;exact ⟨rfl,l,o,rfl,q1,q2⟩
  ·rintro c AG ⟨rfl,l,o,rfl,q1,q2⟩;dsimp only;refine wpS_bind (wpS_mono (EB (n:=n) ?_ ?_ ?_ ?_) ?_)
   ·intro x l R hR;dsimp only;rw [if_pos (ZJ _)];exact wpS_pure hR
   ·intro x l r R hlr hrn y1 y2;dsimp only;rw [if_neg (by lia)];refine wpS_bind (ha _ _ (by lia) ?_);cases e3:U0 lt left key (Bq arr (base + (l + (r - l) / 2)))
    ·exact wpS_pure y2
    ·exact wpS_pure y1
   ·lia
   ·lia
   ·rintro c Gx ⟨rfl,r,rfl,z1⟩;exact wpS_pure (h r z1)
 ·simp only [if_true];refine wpS_bind (wpS_mono (wpS_forRange (I:=fun x c AG=>AG=st/\∃ l o,c=(none,l,o)/\hint + l < n/\l < o/\x + 1<=o)
   (Q:=fun c AG=>AG=st/\∃ l o,c=(none,l,o)/\hint + l < n/\l < o) ?_ ?_ ⟨rfl,0,1,rfl,by lia,by lia,by lia⟩) ?_)
  ·rintro x c AG _ hx ⟨rfl,l,o,rfl,q1,q2,q3⟩;dsimp only;by_cases ho:o >= n - hint
   ·rw [if_pos ho];exact wpS_pure ⟨rfl,l,o,rfl,q1,q2⟩
   ·rw [if_neg ho];refine wpS_bind (ha _ _ (by lia) ?_);cases e2:U0 lt left key (Bq arr (base + (hint + o)))
    ·simp only [Bool.not_false,if_true];exact wpS_pure ⟨rfl,l,o,rfl,q1,q2⟩
    ·simp only [cx,ai,if_false];exact wpS_pure ⟨rfl,o,_,rfl,by lia,by lia,by lia⟩
  ·rintro c AG ⟨rfl,l,o,rfl,q1,q2,q3⟩;exact ⟨rfl,l,o,rfl,q1,q2⟩
  ·rintro c AG ⟨rfl,l,o,rfl,q1,q2⟩;dsimp only;refine wpS_bind (wpS_mono (EB (n:=n) ?_ ?_ ?_ ?_) ?_)
   ·intro x l R hR;dsimp only;rw [if_pos (ZJ _)];exact wpS_pure hR
   ·intro x l r R hlr hrn y1 y2;dsimp only;rw [if_neg (by lia)];refine wpS_bind (ha _ _ (by lia) ?_);cases e3:U0 lt left key (Bq arr (base + (l + (r - l) / 2)))
    ·exact wpS_pure y2
    ·exact wpS_pure y1
   ·lia
   ·lia
   ·rintro c Gx ⟨rfl,r,rfl,z1⟩;exact wpS_pure (h r z1)
structure U6 (a b out:Array Keyed) (ia ib:Nat):Prop where
 ml:(out.toList ++ (a.toList.drop ia ++ b.toList.drop ib)).Perm (a.toList ++ b.toList)
 ha:ia + 1 < a.size
 hb:ib < b.size
 sz:out.size=ia + ib
theorem IP {all out l ra rb:List Keyed} (h:(out ++ ((l ++ ra) ++ rb)).Perm all):((out ++ l) ++ (ra ++ rb)).Perm all:=by
 refine List.Perm.trans ?_ h;simp
theorem Li {all out ra rb:List Keyed} (h:(out ++ (ra ++ rb)).Perm all):(out ++ (rb ++ ra)).Perm all:=List.Perm.trans (List.Perm.append_left _ e7) h
theorem IM {all out l ra rb:List Keyed} (h:(out ++ (ra ++ (l ++ rb))).Perm all):((out ++ l) ++ (ra ++ rb)).Perm all:=Li (IP (Li h))
theorem Lj {all out ra rb:List Keyed} (h:((ra ++ rb) ++ out).Perm all):((rb ++ ra) ++ out).Perm all:=List.Perm.trans (List.Perm.append_right _ e7) h
theorem IQ {all out l ra rb:List Keyed} (h:((ra ++ (rb ++ l)) ++ out).Perm all):((ra ++ rb) ++ (l ++ out)).Perm all:=by
 refine List.Perm.trans ?_ h;simp
theorem Mi {all out l ra rb:List Keyed} (h:(((ra ++ l) ++ rb) ++ out).Perm all):((ra ++ rb) ++ (l ++ out)).Perm all:=Lj (IQ (Lj h))
theorem KN {a b:Array Keyed} {Q:Array Keyed->SortSt->Prop} {st:SortSt} (an:Q2 prog w A s κ lt a0) (hk:kindOf st=κ)
  (ma:∀ i,i < a.size->Bq a i ∈ a0) (mb:∀ i,i < b.size->Bq b i ∈ a0) (na:0 < a.size) (nb:0 < b.size)
  (h:∀ (r:Array Keyed) g,r.toList.Perm (a.toList ++ b.toList)->Q r (Cp st g)):wpS (model prog w) A E s (RC a b) Q st:=by
 have start:((#[Bq b 0]:Array Keyed).toList ++ (a.toList.drop 0 ++ b.toList.drop 1)).Perm (a.toList ++ b.toList):=by
  have e:b.toList.drop 0=[Bq b 0] ++ b.toList.drop 1:=Ju nb;have m0:([] ++ (a.toList.drop 0 ++ ([Bq b 0] ++ b.toList.drop 1))).Perm (a.toList ++ b.toList):=by
   rw [<-e];exact List.Perm.refl _
  exact IM m0
 have lastA:∀ (out:Array Keyed) ia ib,(out.toList ++ (a.toList.drop ia ++ b.toList.drop ib)).Perm (a.toList ++ b.toList)->(out ++ b.extract ib ++ a.extract ia).toList.Perm (a.toList ++ b.toList):=by
  intro out ia ib m;rw [aq,aq,Fj,Fj,aQ];exact Li m
 have doneB:∀ (out:Array Keyed) ia ib,(out.toList ++ (a.toList.drop ia ++ b.toList.drop ib)).Perm (a.toList ++ b.toList)->(out ++ a.extract ia ++ b.extract ib).toList.Perm (a.toList ++ b.toList):=by
  intro out ia ib m;rw [aq,aq,Fj,Fj,aQ];exact m
 have pushB:∀ (out:Array Keyed) ia ib,(out.toList ++ (a.toList.drop ia ++ b.toList.drop ib)).Perm (a.toList ++ b.toList)->ib < b.size->((out.push (Bq b ib)).toList ++ (a.toList.drop ia ++ b.toList.drop (ib + 1))).Perm (a.toList ++ b.toList):=by
  intro out ia ib m hib;rw [bj];rw [Ju hib] at m;exact IM (l:=[Bq b ib]) m
 have pushA:∀ (out:Array Keyed) ia ib,(out.toList ++ (a.toList.drop ia ++ b.toList.drop ib)).Perm (a.toList ++ b.toList)->ia < a.size->((out.push (Bq a ia)).toList ++ (a.toList.drop (ia + 1) ++ b.toList.drop ib)).Perm (a.toList ++ b.toList):=by
  intro out ia ib m hia;rw [bj];rw [Ju hia] at m;exact IP (l:=[Bq a ia]) m
 have partA:∀ (out:Array Keyed) ia ib k,(out.toList ++ (a.toList.drop ia ++ b.toList.drop ib)).Perm (a.toList ++ b.toList)->((out ++ a.extract ia (ia + k)).toList ++ (a.toList.drop (ia + k) ++ b.toList.drop ib)).Perm (a.toList ++ b.toList):=by
  intro out ia ib k m;rw [aq];rw [K6 a ia k] at m;exact IP m
 have partB:∀ (out:Array Keyed) ia ib k,(out.toList ++ (a.toList.drop ia ++ b.toList.drop ib)).Perm (a.toList ++ b.toList)->((out ++ b.extract ib (ib + k)).toList ++ (a.toList.drop ia ++ b.toList.drop (ib + k))).Perm (a.toList ++ b.toList):=by
  intro out ia ib k m;rw [aq];rw [K6 b ib k] at m;exact IM m
 refine wpS_bind (wpS_lift (wpAny_rule ⟨rfl,?_⟩));try dsimp -zeta only
 refine wpS_bind (AL (i:=0) nb ?_);by_cases h1:b.size=1
 ·rw [if_pos (by simp [h1])];exact wpS_pure (h _ _ (doneB _ 0 1 start))
 rw [if_neg (by simpa using fun e=>h1 e.symm)];by_cases h2:a.size=1
 ·rw [if_pos (by simp [h2])];exact wpS_pure (h _ _ (lastA _ 0 1 start))
 rw [if_neg (by simpa using fun e=>h2 (by lia))];refine wpS_bind (wpS_get ?_);refine wpS_bind (wpS_mono (wpS_forRange (I:=fun x c AG=>∃ out ia ib g g',c=(none,out,ia,ib,g)/\AG=Cp st g'/\U6 a b out ia ib/\x + 1<=out.size)
  (Q:=fun c AG=>∃ (r:Array Keyed) (g':Nat),c.1=some r/\AG=Cp st g'/\r.toList.Perm (a.toList ++ b.toList)) ?step ?fin ?init) ?post)
 case init=>exact ⟨_,0,1,_,_,rfl,rfl,⟨start,by lia,by lia,rfl⟩,by simp⟩
 case fin=>
  rintro c AG ⟨out,ia,ib,g,g',rfl,rfl,m,hx⟩;have:=m.ha;have:=m.hb;have:=m.sz;lia
 case post=>
  rintro ⟨c,rest⟩ AG ⟨r,g',e,rfl,m⟩;dsimp only at e;subst e;exact wpS_pure (h _ _ m)
 case step=>
  rintro x c AG _ hxs ⟨out,ia,ib,g,g',rfl,rfl,m,hx⟩;try dsimp -zeta only
  refine wpS_bind (wpS_mono (wpS_forRange (I:=fun y c AG=>∃ out ia ib ac bc,c=(none,out,ia,ib,ac,bc)/\AG=Cp st g'/\U6 a b out ia ib/\x + y + 1<=out.size)
   (Q:=fun c AG=>AG=Cp st g'/\((∃ r:Array Keyed,c.1=some r/\r.toList.Perm (a.toList ++ b.toList))\/∃ out ia ib ac bc,c=(none,out,ia,ib,ac,bc)/\U6 a b out ia ib/\x + 2<=out.size)) ?istep ?ifin ?iinit) ?ipost)
  case iinit=>exact ⟨out,ia,ib,0,0,rfl,rfl,m,by lia⟩
  case ifin=>
   rintro c AG ⟨out,ia,ib,ac,bc,rfl,rfl,m,hx⟩;have:=m.ha;have:=m.hb;have:=m.sz;lia
  case istep=>
   rintro y c AG _ hy ⟨out,ia,ib,ac,bc,rfl,rfl,m,hx⟩;try dsimp -zeta only
   have hia:=m.ha;have hib:=m.hb;have hsz:=m.sz;refine wpS_bind (AL hib (wpS_bind (AL (by first | lia | (dsimp only at *; lia)) ?_)));refine wpS_bind (FH an hk (mb _ hib) (ma _ (by first | lia | (dsimp only at *; lia))) ?_);try dsimp -zeta only
   refine Bu (fun e=>?_) (fun e=>?_)
   ·refine wpS_bind (AL hib ?_);have m2:=pushB out ia ib m.ml hib;refine Bz (fun q1=>wpS_pure ⟨rfl,.inl ⟨_,rfl,doneB _ _ _ m2⟩⟩) fun q1=>?_
    ·have mm:U6 a b (out.push (Bq b ib)) ia (ib + 1):=⟨m2,hia,by lia,by rw [av]; lia⟩
     refine Bu (fun _=>wpS_pure ⟨rfl,.inr ⟨_,_,_,_,_,rfl,mm,by rw [av]; lia⟩⟩) (fun _=>wpS_pure ⟨_,_,_,_,_,rfl,rfl,mm,by rw [av]; lia⟩)
   ·refine wpS_bind (AL (by lia) ?_);have m2:=pushA out ia ib m.ml (by lia);refine Bz (fun q1=>wpS_pure ⟨rfl,.inl ⟨_,rfl,lastA _ _ _ m2⟩⟩) fun q1=>?_
    ·have mm:U6 a b (out.push (Bq a ia)) (ia + 1) ib:=⟨m2,by lia,hib,by rw [av]; lia⟩
     refine Bu (fun _=>wpS_pure ⟨rfl,.inr ⟨_,_,_,_,_,rfl,mm,by rw [av]; lia⟩⟩) (fun _=>wpS_pure ⟨_,_,_,_,_,rfl,rfl,mm,by rw [av]; lia⟩)
  case ipost=>
   rintro c AG ⟨rfl,hc⟩;rcases hc with ⟨r,hc,hm⟩ | ⟨out,ia,ib,ac,bc,rfl,m,Vy⟩
   ·obtain ⟨c,rest⟩:=c;dsimp only at hc;subst hc;exact wpS_pure ⟨r,g',rfl,rfl,hm⟩
   ·try dsimp -zeta only
    refine wpS_bind (wpS_lift (wpAny_rule ⟨rfl,?_⟩));refine wpS_bind (wpS_mono (wpS_forRange (I:=fun y c AG=>∃ out ia ib g ac bc g',c=(none,out,ia,ib,g,ac,bc)/\AG=Cp st g'/\U6 a b out ia ib/\x + 2<=out.size)
     (Q:=fun c AG=>∃ g',AG=Cp st g'/\((∃ r:Array Keyed,c.1=some r/\r.toList.Perm (a.toList ++ b.toList))\/∃ out ia ib g ac bc,c=(none,out,ia,ib,g,ac,bc)/\U6 a b out ia ib/\x + 2<=out.size)) ?jstep ?jfin ?jinit) ?jpost)
    case jinit=>exact ⟨out,ia,ib,_,ac,bc,g',rfl,rfl,m,Vy⟩
    case jfin=>
     rintro c AG ⟨out,ia,ib,g,ac,bc,g',rfl,rfl,m,hx⟩;exact ⟨g',rfl,.inr ⟨out,ia,ib,g,ac,bc,rfl,m,hx⟩⟩
    case jpost=>
     rintro c AG ⟨g',rfl,hc⟩;rcases hc with ⟨r,hc,hm⟩ | ⟨out,ia,ib,g,ac,bc,rfl,m,Vy⟩
     ·obtain ⟨c,rest⟩:=c;dsimp only at hc;subst hc;exact wpS_pure ⟨r,g',rfl,rfl,hm⟩
     ·try dsimp -zeta only
      exact wpS_bind (wpS_modify (wpS_pure ⟨out,ia,ib,_,_,rfl,rfl,m,Vy⟩))
    case jstep=>
     rintro y c AG _ hy ⟨out,ia,ib,g,ac,bc,g',rfl,rfl,m,hx⟩;try dsimp -zeta only
     have hia:=m.ha;have hib:=m.hb;have hsz:=m.sz;apply dup1
     case main=>
      intro rest;refine Bu (fun gg=>?_) (fun gg=>?_)
      ·generalize g - 1=g2;exact rest g2
      ·exact rest g
     case leaf=>
      intro g2;refine wpS_bind (wpS_modify ?_);refine wpS_bind (AL hib ?_);refine wpS_bind (Ci (left:=false) an hk (mb _ hib) (fun i hi=>ma _ (by first | lia | (dsimp only at *; lia))) (by first | lia | (dsimp only at *; lia)) (by first | lia | (dsimp only at *; lia)) fun k k1=>?_);try dsimp -zeta only
      apply T5 (fun (DK:Array Keyed) (LD:Nat)=>(DK.toList ++ (a.toList.drop LD ++ b.toList.drop ib)).Perm (a.toList ++ b.toList)/\DK.size=LD + ib/\LD + 1 < a.size/\x + 2<=DK.size)
      case main=>
       intro rest;refine Bu (fun k0=>?_) (fun k0=>?_)
       ·have m2:=partA out ia ib k m.ml;have z2:(out ++ a.extract ia (ia + k)).size=ia + k + ib:=by
         rw [ck,br,hsz];first | lia | (dsimp only at *; lia)
        refine Bz (fun q1=>wpS_pure ⟨_,rfl,.inl ⟨_,rfl,lastA _ _ _ m2⟩⟩) fun q1=>?_
        refine Bz (fun q2=>wpS_pure ⟨_,rfl,.inl ⟨_,rfl,doneB _ _ _ m2⟩⟩) fun q2=>?_
        obtain ⟨DK,eo⟩:∃ o,o=out ++ a.extract ia (ia + k):=⟨_,rfl⟩
        obtain ⟨LD,ei⟩:∃ o,o=ia + k:=⟨_,rfl⟩
        rw [<-eo,<-ei] at m2 z2;rw [<-eo,<-ei];exact rest DK LD ⟨m2,z2,by first | lia | (dsimp only at *; lia),by first | lia | (dsimp only at *; lia)⟩
       ·exact rest out ia ⟨m.ml,hsz,hia,hx⟩
      case leaf=>
       rintro DK LD ⟨m2,z2,hia2,YT⟩;refine wpS_bind (AL hib ?_);have m3:=pushB DK LD ib m2 hib;have z3:(DK.push (Bq b ib)).size=LD + (ib + 1):=by rw [av]; lia
       refine Bz (fun q3=>wpS_pure ⟨_,rfl,.inl ⟨_,rfl,doneB _ _ _ m3⟩⟩) fun q3=>?_
       refine wpS_bind (AL (by lia) ?_);refine wpS_bind (Ci (left:=true) an hk (ma _ (by lia)) (fun i hi=>mb _ (by lia)) (by lia) (by lia) fun l l1=>?_);try dsimp -zeta only
       apply T5 (fun (DW:Array Keyed) (Sm:Nat)=>(DW.toList ++ (a.toList.drop LD ++ b.toList.drop Sm)).Perm (a.toList ++ b.toList)/\DW.size=LD + Sm/\Sm < b.size/\ib<=Sm)
       case main=>
        intro rest;refine Bu (fun l0=>?_) (fun l0=>?_)
        ·have m4:=partB _ LD (ib + 1) l m3;have z4:(DK.push (Bq b ib) ++ b.extract (ib + 1) (ib + 1 + l)).size=LD + (ib + 1 + l):=by
          rw [ck,br,z3];lia
         refine Bz (fun q1=>wpS_pure ⟨_,rfl,.inl ⟨_,rfl,doneB _ _ _ m4⟩⟩) fun q1=>?_
         obtain ⟨DW,Xl⟩:∃ o,o=DK.push (Bq b ib) ++ b.extract (ib + 1) (ib + 1 + l):=⟨_,rfl⟩
         obtain ⟨Sm,Xn⟩:∃ o,o=ib + 1 + l:=⟨_,rfl⟩
         rw [<-Xl,<-Xn] at m4 z4;rw [<-Xl,<-Xn];exact rest DW Sm ⟨m4,z4,by lia,by lia⟩
        ·exact rest _ (ib + 1) ⟨m3,z3,by lia,by lia⟩
       case leaf=>
        rintro DW Sm ⟨m4,z4,Zj,le2⟩;refine wpS_bind (AL (by lia) ?_);have m5:=pushA DW LD Sm m4 (by lia);have z5:(DW.push (Bq a LD)).size=LD + 1 + Sm:=by rw [av]; lia
        refine Bz (fun q5=>wpS_pure ⟨_,rfl,.inl ⟨_,rfl,lastA _ _ _ m5⟩⟩) fun q5=>?_
        have mm:U6 a b (DW.push (Bq a LD)) (LD + 1) Sm:=⟨m5,by lia,Zj,z5⟩
        have W6:x + 2<=(DW.push (Bq a LD)).size:=by lia
        refine Bu (fun _=>wpS_pure ⟨_,rfl,.inr ⟨_,_,_,_,_,_,rfl,mm,W6⟩⟩) (fun _=>wpS_pure ⟨_,_,_,_,_,_,_,rfl,rfl,mm,W6⟩)
structure U7 (a b out:Array Keyed) (na nb:Nat):Prop where
 mh:((a.toList.take na ++ b.toList.take nb) ++ out.toList.reverse).Perm (a.toList ++ b.toList)
 ha:0 < na
 hb:1 < nb
 la:na<=a.size
 lb:nb<=b.size
 sz:out.size + (na + nb)=a.size + b.size
theorem KO {a b:Array Keyed} {Q:Array Keyed->SortSt->Prop} {st:SortSt} (an:Q2 prog w A s κ lt a0) (hk:kindOf st=κ)
  (ma:∀ i,i < a.size->Bq a i ∈ a0) (mb:∀ i,i < b.size->Bq b i ∈ a0) (pa:0 < a.size) (pb:0 < b.size)
  (h:∀ (r:Array Keyed) g,r.toList.Perm (a.toList ++ b.toList)->Q r (Cp st g)):wpS (model prog w) A E s (RD a b) Q st:=by
 have pushA:∀ (out:Array Keyed) na nb,((a.toList.take na ++ b.toList.take nb) ++ out.toList.reverse).Perm (a.toList ++ b.toList)->0 < na->na<=a.size->((a.toList.take (na - 1) ++ b.toList.take nb) ++ (out.push (Bq a (na - 1))).toList.reverse).Perm (a.toList ++ b.toList):=by
  intro out na nb m h0 h1;rw [bj,bY];obtain ⟨n,rfl⟩:∃ n,na=n + 1:=⟨na - 1,by lia⟩
  rw [LL (by lia)] at m;exact Mi (l:=[Bq a n]) m
 have pushB:∀ (out:Array Keyed) na nb,((a.toList.take na ++ b.toList.take nb) ++ out.toList.reverse).Perm (a.toList ++ b.toList)->0 < nb->nb<=b.size->((a.toList.take na ++ b.toList.take (nb - 1)) ++ (out.push (Bq b (nb - 1))).toList.reverse).Perm (a.toList ++ b.toList):=by
  intro out na nb m h0 h1;rw [bj,bY];obtain ⟨n,rfl⟩:∃ n,nb=n + 1:=⟨nb - 1,by lia⟩
  rw [LL (by lia)] at m;exact IQ (l:=[Bq b n]) m
 have partA:∀ (out:Array Keyed) na nb k,((a.toList.take na ++ b.toList.take nb) ++ out.toList.reverse).Perm (a.toList ++ b.toList)->k<=na->((a.toList.take k ++ b.toList.take nb) ++ (out ++ (a.extract k na).reverse).toList.reverse).Perm (a.toList ++ b.toList):=by
  intro out na nb k m h0;rw [aq,bU,bY,eJ];rw [EY h0] at m;exact Mi m
 have partB:∀ (out:Array Keyed) na nb k,((a.toList.take na ++ b.toList.take nb) ++ out.toList.reverse).Perm (a.toList ++ b.toList)->k<=nb->((a.toList.take na ++ b.toList.take k) ++ (out ++ (b.extract k nb).reverse).toList.reverse).Perm (a.toList ++ b.toList):=by
  intro out na nb k m h0;rw [aq,bU,bY,eJ];rw [EY h0] at m;exact IQ m
 have start:((a.toList.take (a.size - 1) ++ b.toList.take b.size) ++ (#[Bq a (a.size - 1)]:Array Keyed).toList.reverse).Perm (a.toList ++ b.toList):=by
  refine pushA #[] a.size b.size ?_ pa (ZJ _);rw [aK (by simp),aK (by simp)];simp
 have firstB:∀ (out:Array Keyed) na nb,((a.toList.take na ++ b.toList.take nb) ++ out.toList.reverse).Perm (a.toList ++ b.toList)->(b.extract 0 nb ++ a.extract 0 na ++ out.reverse).toList.Perm (a.toList ++ b.toList):=by
  intro out na nb m;rw [aq,aq,Fi,Fi,bU];exact Lj m
 have doneA:∀ (out:Array Keyed) na nb,((a.toList.take na ++ b.toList.take nb) ++ out.toList.reverse).Perm (a.toList ++ b.toList)->(a.extract 0 na ++ b.extract 0 nb ++ out.reverse).toList.Perm (a.toList ++ b.toList):=by
  intro out na nb m;rw [aq,aq,Fi,Fi,bU];exact m
 refine wpS_bind (wpS_lift (wpAny_rule ⟨rfl,?_⟩));try dsimp -zeta only
 refine wpS_bind (AL (i:=a.size - 1) (by lia) ?_);by_cases h1:a.size - 1=0
 ·rw [if_pos (by simpa using h1)];exact wpS_pure (h _ _ (doneA _ _ _ start))
 rw [if_neg (by simpa using h1)];by_cases h2:b.size=1
 ·rw [if_pos (by simpa using h2)];exact wpS_pure (h _ _ (firstB _ _ _ start))
 rw [if_neg (by simpa using h2)];refine wpS_bind (wpS_get ?_);refine wpS_bind (wpS_mono (wpS_forRange (I:=fun x c AG=>∃ na nb out g g',c=(none,na,nb,out,g)/\AG=Cp st g'/\U7 a b out na nb/\x + 1<=out.size)
  (Q:=fun c AG=>∃ (r:Array Keyed) (g':Nat),c.1=some r/\AG=Cp st g'/\r.toList.Perm (a.toList ++ b.toList)) ?step ?fin ?init) ?post)
 case init=>exact ⟨_,_,_,_,_,rfl,rfl,⟨start,by lia,by lia,by lia,by lia,by show 1 + _=_; lia⟩,by simp⟩
 case fin=>
  rintro c AG ⟨na,nb,out,g,g',rfl,rfl,m,hx⟩;have:=m.ha;have:=m.hb;have:=m.sz;lia
 case post=>
  rintro ⟨c,rest⟩ AG ⟨r,g',e,rfl,m⟩;dsimp only at e;subst e;exact wpS_pure (h _ _ m)
 case step=>
  rintro x c AG _ hxs ⟨na,nb,out,g,g',rfl,rfl,m,hx⟩;try dsimp -zeta only
  refine wpS_bind (wpS_mono (wpS_forRange (I:=fun y c AG=>∃ na nb out ac bc,c=(none,na,nb,out,ac,bc)/\AG=Cp st g'/\U7 a b out na nb/\x + y + 1<=out.size)
   (Q:=fun c AG=>AG=Cp st g'/\((∃ r:Array Keyed,c.1=some r/\r.toList.Perm (a.toList ++ b.toList))\/∃ na nb out ac bc,c=(none,na,nb,out,ac,bc)/\U7 a b out na nb/\x + 2<=out.size)) ?istep ?ifin ?iinit) ?ipost)
  case iinit=>exact ⟨na,nb,out,0,0,rfl,rfl,m,by lia⟩
  case ifin=>
   rintro c AG ⟨na,nb,out,ac,bc,rfl,rfl,m,hx⟩;have:=m.ha;have:=m.hb;have:=m.sz;lia
  case istep=>
   rintro y c AG _ hy ⟨na,nb,out,ac,bc,rfl,rfl,m,hx⟩;try dsimp -zeta only
   have ha:=m.ha;have hb:=m.hb;have la:=m.la;have lb:=m.lb;have hsz:=m.sz;refine wpS_bind (AL (by first | lia | (dsimp only at *; lia)) (wpS_bind (AL (by first | lia | (dsimp only at *; lia)) ?_)));refine wpS_bind (FH an hk (mb _ (by first | lia | (dsimp only at *; lia))) (ma _ (by first | lia | (dsimp only at *; lia))) ?_);try dsimp -zeta only
   refine Bu (fun e=>?_) (fun e=>?_)
   ·refine wpS_bind (AL (by lia) ?_);have m2:=pushA out na nb m.mh ha la;refine Bz (fun q1=>wpS_pure ⟨rfl,.inl ⟨_,rfl,doneA _ _ _ m2⟩⟩) fun q1=>?_
    ·have mm:U7 a b (out.push (Bq a (na - 1))) (na - 1) nb:=⟨m2,by lia,hb,by lia,lb,by rw [av]; lia⟩
     refine Bu (fun _=>wpS_pure ⟨rfl,.inr ⟨_,_,_,_,_,rfl,mm,by rw [av]; lia⟩⟩) (fun _=>wpS_pure ⟨_,_,_,_,_,rfl,rfl,mm,by rw [av]; lia⟩)
   ·refine wpS_bind (AL (by lia) ?_);have m2:=pushB out na nb m.mh (by lia) lb;refine Bz (fun q1=>wpS_pure ⟨rfl,.inl ⟨_,rfl,firstB _ _ _ m2⟩⟩) fun q1=>?_
    ·have mm:U7 a b (out.push (Bq b (nb - 1))) na (nb - 1):=⟨m2,ha,by lia,la,by lia,by rw [av]; lia⟩
     refine Bu (fun _=>wpS_pure ⟨rfl,.inr ⟨_,_,_,_,_,rfl,mm,by rw [av]; lia⟩⟩) (fun _=>wpS_pure ⟨_,_,_,_,_,rfl,rfl,mm,by rw [av]; lia⟩)
  case ipost=>
   rintro c AG ⟨rfl,hc⟩;rcases hc with ⟨r,hc,hm⟩ | ⟨na,nb,out,ac,bc,rfl,m,Vy⟩
   ·obtain ⟨c,rest⟩:=c;dsimp only at hc;subst hc;exact wpS_pure ⟨r,g',rfl,rfl,hm⟩
   ·try dsimp -zeta only
    refine wpS_bind (wpS_lift (wpAny_rule ⟨rfl,?_⟩));refine wpS_bind (wpS_mono (wpS_forRange (I:=fun y c AG=>∃ na nb out g ac bc g',c=(none,na,nb,out,g,ac,bc)/\AG=Cp st g'/\U7 a b out na nb/\x + 2<=out.size)
     (Q:=fun c AG=>∃ g',AG=Cp st g'/\((∃ r:Array Keyed,c.1=some r/\r.toList.Perm (a.toList ++ b.toList))\/∃ na nb out g ac bc,c=(none,na,nb,out,g,ac,bc)/\U7 a b out na nb/\x + 2<=out.size)) ?jstep ?jfin ?jinit) ?jpost)
    case jinit=>exact ⟨na,nb,out,_,ac,bc,g',rfl,rfl,m,Vy⟩
    case jfin=>
     rintro c AG ⟨na,nb,out,g,ac,bc,g',rfl,rfl,m,hx⟩;exact ⟨g',rfl,.inr ⟨na,nb,out,g,ac,bc,rfl,m,hx⟩⟩
    case jpost=>
     rintro c AG ⟨g',rfl,hc⟩;rcases hc with ⟨r,hc,hm⟩ | ⟨na,nb,out,g,ac,bc,rfl,m,Vy⟩
     ·obtain ⟨c,rest⟩:=c;dsimp only at hc;subst hc;exact wpS_pure ⟨r,g',rfl,rfl,hm⟩
     ·try dsimp -zeta only
      exact wpS_bind (wpS_modify (wpS_pure ⟨na,nb,out,_,_,rfl,rfl,m,Vy⟩))
    case jstep=>
     rintro y c AG _ hy ⟨na,nb,out,g,ac,bc,g',rfl,rfl,m,hx⟩;try dsimp -zeta only
     have ha:=m.ha;have hb:=m.hb;have la:=m.la;have lb:=m.lb;have hsz:=m.sz;apply dup1
     case main=>
      intro rest;refine Bu (fun gg=>?_) (fun gg=>?_)
      ·generalize g - 1=g2;exact rest g2
      ·exact rest g
     case leaf=>
      intro g2;refine wpS_bind (wpS_modify ?_);refine wpS_bind (AL (by first | lia | (dsimp only at *; lia)) ?_);refine wpS_bind (Ci (left:=false) an hk (mb _ (by first | lia | (dsimp only at *; lia))) (fun i hi=>ma _ (by first | lia | (dsimp only at *; lia))) (by first | lia | (dsimp only at *; lia)) (by first | lia | (dsimp only at *; lia)) fun k k1=>?_);try dsimp -zeta only
      generalize hac:na - k=ac2;apply T5 (fun (DK:Array Keyed) (Ls:Nat)=>((a.toList.take Ls ++ b.toList.take nb) ++ DK.toList.reverse).Perm (a.toList ++ b.toList)/\DK.size + (Ls + nb)=a.size + b.size/\0 < Ls/\Ls<=a.size/\x + 2<=DK.size)
      case main=>
       intro rest;refine Bu (fun k0=>?_) (fun k0=>?_)
       ·have m2:=partA out na nb k m.mh k1;have z2:(out ++ (a.extract k na).reverse).size + (k + nb)=a.size + b.size:=by
         rw [ck,eN,br];lia
        refine Bz (fun q1=>wpS_pure ⟨_,rfl,.inl ⟨_,rfl,doneA _ _ _ m2⟩⟩) fun q1=>?_
        obtain ⟨DK,eo⟩:∃ o,o=out ++ (a.extract k na).reverse:=⟨_,rfl⟩
        obtain ⟨Ls,ei⟩:∃ o,o=k:=⟨_,rfl⟩
        rw [<-eo] at m2 z2;rw [<-eo,<-ei];rw [<-ei] at m2 z2;exact rest DK Ls ⟨m2,z2,by lia,by lia,by lia⟩
       ·exact rest out na ⟨m.mh,hsz,ha,la,hx⟩
      case leaf=>
       rintro DK Ls ⟨m2,z2,p1,p2,YT⟩;refine wpS_bind (AL (by lia) ?_);have m3:=pushB DK Ls nb m2 (by lia) lb;have z3:(DK.push (Bq b (nb - 1))).size + (Ls + (nb - 1))=a.size + b.size:=by rw [av]; lia
       refine Bz (fun q3=>wpS_pure ⟨_,rfl,.inl ⟨_,rfl,firstB _ _ _ m3⟩⟩) fun q3=>?_
       refine wpS_bind (AL (by lia) ?_);refine wpS_bind (Ci (left:=true) an hk (ma _ (by lia)) (fun i hi=>mb _ (by lia)) (by lia) (by lia) fun l l1=>?_);try dsimp -zeta only
       generalize hbc:nb - 1 - l=bc2;apply T5 (fun (DW:Array Keyed) (Lr:Nat)=>((a.toList.take Ls ++ b.toList.take Lr) ++ DW.toList.reverse).Perm (a.toList ++ b.toList)/\DW.size + (Ls + Lr)=a.size + b.size/\1 < Lr/\Lr<=b.size/\x + 2<=DW.size)
       case main=>
        intro rest;refine Bu (fun l0=>?_) (fun l0=>?_)
        ·have m4:=partB _ Ls (nb - 1) l m3 l1;have z4:(DK.push (Bq b (nb - 1)) ++ (b.extract l (nb - 1)).reverse).size + (Ls + l)=a.size + b.size:=by
          rw [ck,eN,br];lia
         refine Bz (fun q1=>wpS_pure ⟨_,rfl,.inl ⟨_,rfl,firstB _ _ _ m4⟩⟩) fun q1=>?_
         refine Bz (fun q2=>wpS_pure ⟨_,rfl,.inl ⟨_,rfl,doneA _ _ _ m4⟩⟩) fun q2=>?_
         obtain ⟨DW,Xl⟩:∃ o,o=DK.push (Bq b (nb - 1)) ++ (b.extract l (nb - 1)).reverse:=⟨_,rfl⟩
         obtain ⟨Lr,Xn⟩:∃ o,o=l:=⟨_,rfl⟩
         rw [<-Xl] at m4 z4;rw [<-Xl,<-Xn];rw [<-Xn] at m4 z4;exact rest DW Lr ⟨m4,z4,by lia,by lia,by lia⟩
        ·exact rest _ (nb - 1) ⟨m3,z3,by lia,by lia,by rw [av]; lia⟩
       case leaf=>
        rintro DW Lr ⟨m4,z4,p3,p4,hx3⟩;refine wpS_bind (AL (by lia) ?_);have m5:=pushA DW Ls Lr m4 p1 p2;have z5:(DW.push (Bq a (Ls - 1))).size + (Ls - 1 + Lr)=a.size + b.size:=by rw [av]; lia
        refine Bz (fun q5=>wpS_pure ⟨_,rfl,.inl ⟨_,rfl,doneA _ _ _ m5⟩⟩) fun q5=>?_
        have mm:U7 a b (DW.push (Bq a (Ls - 1))) (Ls - 1) Lr:=⟨m5,by lia,p3,by lia,p4,z5⟩
        have W6:x + 2<=(DW.push (Bq a (Ls - 1))).size:=by rw [av]; lia
        refine Bu (fun _=>wpS_pure ⟨_,rfl,.inr ⟨_,_,_,_,_,_,rfl,mm,W6⟩⟩) (fun _=>wpS_pure ⟨_,_,_,_,_,_,_,rfl,rfl,mm,W6⟩)
theorem JG {lo nrem:Nat} {Q:Option Nat->SortSt->Prop} {st:SortSt} (an:Q2 prog w A s κ lt a0) (hk:kindOf st=κ) (hp:(arrOf st).Perm a0) (hn:lo + nrem<=a0.size) (h1:1<=nrem)
  (h:∀ m ys,Kp (arrOf st) ys lo->1<=m->m<=nrem->Q (some m) (setArr st ys)):wpS (model prog w) A E s (countRun' lo nrem) Q st:=by
 have hz:=hp.size_eq;refine wpS_bind (wpS_mono (Og (f:=fun n=>lt (Bq (arrOf st) (lo + n)) (Bq (arrOf st) (lo + n - 1))) h1 ?_) ?_)
 ·intro x n R n1 n2 y1 y2;dsimp only;refine wpS_bind (Dh an hk hp (by lia) (by lia) ?_);dsimp only;cases e:lt (Bq (arrOf st) (lo + n)) (Bq (arrOf st) (lo + n - 1))
  ·exact wpS_pure (y2 e)
  ·exact wpS_pure (y1 e)
 rintro c AG ⟨rfl,n,rfl,n1,n2,q,hor⟩;dsimp only;by_cases hnn:n=nrem
 ·rw [if_pos (by simpa using hnn)];exact wpS_pure (h n _ (Kp.refl _ _) n1 n2)
 rw [if_neg (by simpa using hnn)];by_cases hgt:n > 1
 case' pos=>
  rw [if_pos hgt];refine wpS_bind (Dh an hk hp (by lia) (by lia) ?_);dsimp only;cases hrose:lt (Bq (arrOf AG) lo) (Bq (arrOf AG) (lo + n - 1))
  case' true=>
   simp only [if_true];exact wpS_pure (h n _ (Kp.refl _ _) n1 n2)
  case' false=>
   simp only [ai,if_false];refine wpS_bind (FG ?_);have kp:Kp (arrOf AG) (mirror (arrOf AG) lo (lo + n) ((lo + n - lo) / 2)) lo:=(Kp.refl _ _).mirror (by lia) (ZJ _);obtain ⟨ys,ey⟩:∃ ys,ys=mirror (arrOf AG) lo (lo + n) ((lo + n - lo) / 2):=⟨_,rfl⟩
   rw [<-ey] at kp;show wpS (model prog w) A E s _ Q (setArr AG (mirror (arrOf AG) lo (lo + n) ((lo + n - lo) / 2)))
   rw [<-ey]
 case' neg=>
  rw [if_neg hgt];obtain ⟨ys,ey⟩:∃ ys,ys=arrOf AG:=⟨_,rfl⟩
  have kp:Kp (arrOf AG) ys lo:=by rw [ey]; exact Kp.refl _ _
  show wpS (model prog w) A E s _ Q (setArr AG (arrOf AG))
  rw [<-ey]
 all_goals
  refine wpS_bind (wpS_lift (wpAny_rule ⟨rfl,?_⟩));refine wpS_bind (wpS_mono (wpS_forRange (I:=fun x c BN=>∃ neq ys,c=(none,x,neq)/\BN=setArr AG ys/\Kp (arrOf AG) ys lo/\neq + 1<=x)
   (Q:=fun c BN=>∃ m neq ys,c=(none,m,neq)/\BN=setArr AG ys/\Kp (arrOf AG) ys lo/\n + 1<=m/\m<=nrem/\neq + 1<=m) ?dstep ?dfin ?dinit) ?dpost)
  case dinit=>exact ⟨0,ys,rfl,rfl,kp,by lia⟩
  case dfin=>
   rintro c BN ⟨neq,ys,rfl,rfl,kp,a1⟩;have e:max (n + 1) nrem=nrem:=by lia
   rw [e] at a1 ⊢;exact ⟨nrem,neq,ys,rfl,rfl,kp,by lia,ZJ _,a1⟩
  case dstep=>
   rintro x c BN x1 x2 ⟨neq,ys,rfl,rfl,kp,a1⟩;dsimp only;have hzy:=kp.size;have hpy:(arrOf (setArr AG ys)).Perm a0:=kp.1.trans hp;refine wpS_bind (Dh (st:=setArr AG ys) an hk hpy (by lia) (by lia) ?_);dsimp only;cases hless:lt (Bq ys (lo + x)) (Bq ys (lo + x - 1))
   ·simp only [ai,if_false];refine wpS_bind (Dh (st:=setArr AG ys) an hk hpy (by lia) (by lia) ?_);dsimp only;cases hlarger:lt (Bq ys (lo + x - 1)) (Bq ys (lo + x))
    ·simp only [ai,if_false];exact wpS_pure ⟨neq + 1,ys,rfl,rfl,kp,by lia⟩
    ·simp only [if_true];exact wpS_pure ⟨x,neq,ys,rfl,rfl,kp,x1,by lia,a1⟩
   ·simp only [if_true];by_cases hq:neq > 0
    ·rw [if_pos hq];exact wpS_bind (FG (wpS_pure ⟨0,_,rfl,rfl,kp.mirror (by lia) (by lia),by lia⟩))
    ·rw [if_neg hq];exact wpS_pure ⟨0,ys,rfl,rfl,kp,by lia⟩
  case dpost=>
   rintro c BN ⟨m,neq,zs,rfl,rfl,kz,m1,m2,a1⟩;dsimp only;have hzz:=kz.size;have last:∀ us,Kp (arrOf AG) us lo->∀ (vs:Array Keyed),Kp (arrOf AG) vs lo->∀ n',m<=n'->n'<=nrem->Q (some n') (setArr AG vs):=fun us ku vs kv n' b1 b2=>h n' vs kv (by lia) b2
   by_cases hq:neq > 0
   case' pos=>
    rw [if_pos hq];refine wpS_bind (FG ?_);have Wz:Kp (arrOf AG) (mirror zs (lo + m - (neq + 1)) (lo + m) ((lo + m - (lo + m - (neq + 1))) / 2)) lo:=kz.mirror (by lia) (by lia);obtain ⟨us,eu⟩:∃ us,us=mirror zs (lo + m - (neq + 1)) (lo + m) ((lo + m - (lo + m - (neq + 1))) / 2):=⟨_,rfl⟩
    rw [<-eu] at Wz;show wpS (model prog w) A E s _ Q (setArr AG (mirror zs (lo + m - (neq + 1)) (lo + m) ((lo + m - (lo + m - (neq + 1))) / 2)))
    rw [<-eu]
   case' neg=>
    rw [if_neg hq];obtain ⟨us,eu⟩:∃ us,us=zs:=⟨_,rfl⟩
    have Wz:Kp (arrOf AG) us lo:=by rw [eu]; exact kz
    rw [<-eu]
   all_goals
    have hzu:=Wz.size;refine wpS_bind (FG ?_);show wpS (model prog w) A E s _ Q (setArr AG (mirror us lo (lo + m) ((lo + m - lo) / 2)))
    have kv:Kp (arrOf AG) (mirror us lo (lo + m) ((lo + m - lo) / 2)) lo:=Wz.mirror (by lia) (ZJ _);obtain ⟨vs,ev⟩:∃ vs,vs=mirror us lo (lo + m) ((lo + m - lo) / 2):=⟨_,rfl⟩
    rw [<-ev] at kv;rw [<-ev];have hzv:=kv.size;refine wpS_bind (wpS_mono (Og (f:=fun n=>lt (Bq vs (lo + n)) (Bq vs (lo + n - 1))) m2 ?_) ?_)
    ·intro x n R n1 n2 y1 y2;dsimp only;refine wpS_bind (Dh (st:=setArr AG vs) an hk (kv.1.trans hp) (by lia) (by lia) ?_);dsimp only;cases e:lt (Bq vs (lo + n)) (Bq vs (lo + n - 1))
     ·exact wpS_pure (y2 e)
     ·exact wpS_pure (y1 e)
    rintro c Y0 ⟨rfl,n',rfl,b1,b2,b3,_⟩;exact wpS_pure (last us Wz vs kv n' b1 b2)
theorem HN {lo n ok:Nat} {Q:Bool->SortSt->Prop} {st:SortSt} (an:Q2 prog w A s κ lt a0) (hk:kindOf st=κ) (hp:(arrOf st).Perm a0) (hn:lo + n<=a0.size) (h1:1<=ok) (hok:ok<=n)
  (h:∀ ys,Kp (arrOf st) ys lo->Q true (setArr st ys)):wpS (model prog w) A E s (binarySort' lo n ok) Q st:=by
 have hz:=hp.size_eq;refine wpS_bind (wpS_mono (wpS_forRange (I:=fun k c AG=>c=(none,())/\∃ ys,AG=setArr st ys/\Kp (arrOf st) ys lo)
  (Q:=fun c AG=>c=(none,())/\∃ ys,AG=setArr st ys/\Kp (arrOf st) ys lo) ?step ?fin ?init) ?post)
 case init=>exact ⟨rfl,arrOf st,rfl,Kp.refl _ _⟩
 case fin=>
  rintro c AG ⟨rfl,ys,rfl,kp⟩;exact ⟨rfl,ys,rfl,kp⟩
 case post=>
  rintro c AG ⟨rfl,ys,rfl,kp⟩;exact wpS_pure (h ys kp)
 case step=>
  rintro k c AG k1 k2 ⟨rfl,ys,rfl,kp⟩;dsimp only;have hzy:=kp.size;have hpy:(arrOf (setArr st ys)).Perm a0:=kp.1.trans hp;refine wpS_bind (wpS_mono (EB (n:=k) ?_ ?_ (ao _) (ZJ _)) ?_)
  ·intro x l R hR;dsimp only;rw [if_pos (ZJ _)];exact wpS_pure hR
  ·intro x l r R hlr hrk y1 y2;dsimp only;rw [if_neg (by lia),show (l + r) / 2=l + (r - l) / 2 by lia];refine wpS_bind (Dh (st:=setArr st ys) an hk hpy (by lia) (by lia) ?_);dsimp only;cases e:lt (Bq ys (lo + k)) (Bq ys (lo + (l + (r - l) / 2)))
   ·exact wpS_pure y1
   ·exact wpS_pure y2
  ·rintro c Gx ⟨rfl,r,rfl,r1⟩;refine wpS_bind ?_;rw [show (sortPriv% PySem.Builtin.moveDown)=moveDown' from rfl,moveDown'_eq];exact wpS_modify (wpS_pure ⟨rfl,bubble ys (lo + k) (lo + k - (lo + r)),rfl,kp.bubble (by lia) (by lia)⟩)
theorem KP {st:SortSt} {Q:Bool->SortSt->Prop} {l1 l2:List (Nat × Nat × Nat)} {sa na p1 sb nb p2:Nat} (an:Q2 prog w A s κ lt a0) (hk:kindOf st=κ) (hp:(arrOf st).Perm a0) (hfa:failedOf st=none)
  (hl:(pendingOf st).toList=l1 ++ (sa,na,p1) :: (sb,nb,p2) :: l2) (eb:sb=sa + na) (ha:1<=na) (hb:1<=nb) (hz:sb + nb<=a0.size)
  (h:∀ ys pe g,ys.Perm a0->(∀ k,(k < sa\/sb + nb<=k)->Bq ys k=Bq (arrOf st) k)->pe.toList=l1 ++ (sa,na + nb,p1) :: l2->Q true (SortSt.mk' (kindOf st) ys pe g none)) :
  wpS (model prog w) A E s (mergeAt' l1.length) Q st:=by
 have hzx:=hp.size_eq;have mem:∀ i,i < a0.size->Bq (arrOf st) i ∈ a0:=fun i hi=>(Array.Perm.mem_iff hp).mp (Lx (by lia))
 have g1:(pendingOf st)[l1.length]? = some (sa,na,p1):=by
  rw [<-aX,hl];simp
 have g2:(pendingOf st)[l1.length + 1]? = some (sb,nb,p2):=by
  rw [<-aX,hl];simp
 have pe:(((pendingOf st).setIfInBounds l1.length (sa,na + nb,p1)).eraseIdxIfInBounds (l1.length + 1)).toList=l1 ++ (sa,na + nb,p1) :: l2:=by
  rw [Array.toList_eraseIdxIfInBounds,dA,hl];simp [List.eraseIdx_append];intro z;lia
 refine wpS_bind (wpS_get ?_);have e2:((pendingOf st)[l1.length]?,(pendingOf st)[l1.length + 1]?)=(some (sa,na,p1),some (sb,nb,p2)):=by rw [g1,g2]
 dsimp only;rw [show ((sortPriv% PySem.Builtin.SortState.pending) st)[l1.length]? = some (sa,na,p1) from g1,show ((sortPriv% PySem.Builtin.SortState.pending) st)[l1.length + 1]? = some (sb,nb,p2) from g2];dsimp only;refine wpS_bind (Sy ?_);refine wpS_bind (AL (by show sb < (arrOf st).size; lia) ?_);refine wpS_bind (Ci (left:=false) an hk (mem _ (by lia)) (fun i hi=>mem _ (by lia)) (by show _<=(arrOf st).size; lia) (by lia) fun k k1=>?_);dsimp only;by_cases q1:na - k=0
 ·rw [if_pos (by simpa using q1)];refine wpS_pure ?_;have e:=hfa;have fin:=h (arrOf st) _ (gallopOf st) hp (fun _ _=>rfl) pe;rw [<-hfa] at fin;exact fin
 rw [if_neg (by simpa using q1)];refine wpS_bind (AL (by show _ < (arrOf st).size; lia) ?_);have el:sa + k + (na - k) - 1=sa + na - 1:=by lia
 rw [el];refine wpS_bind (Ci (left:=true) an hk (mem _ (by lia)) (fun i hi=>mem _ (by lia)) (by show _<=(arrOf st).size; lia) (by lia) fun m m1=>?_);dsimp only;by_cases q2:m=0
 ·rw [if_pos (by simpa using q2)];refine wpS_pure ?_;have fin:=h (arrOf st) _ (gallopOf st) hp (fun _ _=>rfl) pe;rw [<-hfa] at fin;exact fin
 rw [if_neg (by simpa using q2)];have zx:((arrOf st).extract (sa + k) sb).size=na - k:=by rw [br]; lia
 have zy:((arrOf st).extract sb (sb + m)).size=m:=by rw [br]; lia
 have ix:∀ i,i < na - k->Bq ((arrOf st).extract (sa + k) sb) i=Bq (arrOf st) (sa + k + i):=fun i hi=>HF (by lia) (by lia)
 have iy:∀ i,i < m->Bq ((arrOf st).extract sb (sb + m)) i=Bq (arrOf st) (sb + i):=fun i hi=>HF (by lia) (by lia)
 have fin:∀ (r:Array Keyed) (g:Nat),r.toList.Perm (((arrOf st).extract (sa + k) sb).toList ++ ((arrOf st).extract sb (sb + m)).toList) ->
   Q true (SortSt.mk' (kindOf st) (gr (fun a x=>a.setIfInBounds (sa + k + x.snd) x.fst) (arrOf st) r.toList.zipIdx) (((pendingOf st).setIfInBounds l1.length (sa,na + nb,p1)).eraseIdxIfInBounds (l1.length + 1)) g none):=by
  intro r g mr;have rl:r.toList.length=na - k + m:=by
   rw [mr.length_eq,ZH,ag,ag,zx,zy]
  have pb:=Mf (sa + k) r.toList 0 (arrOf st) (by lia);rw [Nat.add_zero] at pb;have l1':((arrOf st).toList.take (sa + k)).length=sa + k:=by rw [ah,ag]; lia
  obtain ⟨zs,ez⟩:∃ zs,zs=gr (fun a x=>a.setIfInBounds (sa + k + x.snd) x.fst) (arrOf st) r.toList.zipIdx:=⟨_,rfl⟩
  rw [<-ez] at pb ⊢;have zlow:∀ i,i < sa + k->Bq zs i=Bq (arrOf st) i:=fun i hi=>by
   rw [Gf,Gf,pb,aQ,Qo (by lia),ZP,dN hi,ZP]
  have zhigh:∀ i,sb + m<=i->Bq zs i=Bq (arrOf st) i:=fun i hi=>by
   rw [Gf,Gf,pb,Qn (by rw [ZH]; lia),ZP,List.getElem?_drop,ZP];congr 2;rw [ZH];lia
  refine h zs _ g ?_ ?_ pe
  ·refine Array.Perm.trans (dB.mpr ?_) hp;rw [pb];have e1:=EY (xs:=arrOf st) (i:=sa + k) (j:=sb) (by lia);have e2:=EY (xs:=arrOf st) (i:=sb) (j:=sb + m) (by lia);have e3:=bP (sb + m) (arrOf st).toList;rw [e2,e1] at e3;rw [rl,show sa + k + (na - k + m)=sb + m by lia];conv=>rhs; rw [<-e3]
   rw [aQ ((arrOf st).toList.take (sa + k)) ((arrOf st).extract (sa + k) sb).toList];exact List.Perm.append_right _ (List.Perm.append_left _ mr)
  ·intro i hi;rcases hi with hi | hi
   ·exact zlow i (by lia)
   ·exact zhigh i (by lia)
 have mx:∀ i,i < ((arrOf st).extract (sa + k) sb).size->Bq ((arrOf st).extract (sa + k) sb) i ∈ a0:=fun i hi=>by rw [ix i (by lia)]; exact mem _ (by lia)
 have my:∀ i,i < ((arrOf st).extract sb (sb + m)).size->Bq ((arrOf st).extract sb (sb + m)) i ∈ a0:=fun i hi=>by rw [iy i (by lia)]; exact mem _ (by lia)
 by_cases q3:na - k<=m
 ·rw [if_pos q3];refine wpS_bind (KN an hk mx my (show 0 < ((arrOf st).extract (sa + k) sb).size by rw [zx]; lia) (show 0 < ((arrOf st).extract sb (sb + m)).size by rw [zy]; lia) fun r g mr=>?_);refine wpS_bind (wpS_modify (wpS_bind (wpS_get (wpS_pure ?_))));have f:=fin r g mr;rw [<-hfa] at f;have e:(failedOf st).isNone=true:=by rw [hfa]; rfl
  show Q (failedOf st).isNone _
  rw [e];exact f
 ·rw [if_neg q3];refine wpS_bind (KO an hk mx my (show 0 < ((arrOf st).extract (sa + k) sb).size by rw [zx]; lia) (show 0 < ((arrOf st).extract sb (sb + m)).size by rw [zy]; lia) fun r g mr=>?_);refine wpS_bind (wpS_modify (wpS_bind (wpS_get (wpS_pure ?_))));have f:=fin r g mr;rw [<-hfa] at f;have e:(failedOf st).isNone=true:=by rw [hfa]; rfl
  show Q (failedOf st).isNone _
  rw [e];exact f
def E9:Nat->List (Nat × Nat)->Nat->Prop
 | a,[],b=>a=b
 | a,(p,n) :: r,b=>p=a/\1<=n/\E9 (a + n) r b
theorem E9.app:∀ {l1 l2:List (Nat × Nat)} {a b:Nat},E9 a (l1 ++ l2) b ↔ ∃ m,E9 a l1 m/\E9 m l2 b
 | [],l2,a,b=>⟨fun h=>⟨a,rfl,h⟩,fun ⟨m,e,h⟩=>by cases e; exact h⟩
 | (p,n) :: r,l2,a,b=>by
  refine ⟨fun h=>?_,fun h=>?_⟩
  ·obtain ⟨h1,h2,h3⟩:=h;obtain ⟨m,a1,a2⟩:=E9.app.mp h3;exact ⟨m,⟨h1,h2,a1⟩,a2⟩
  ·obtain ⟨m,⟨h1,h2,h3⟩,h4⟩:=h;exact ⟨h1,h2,E9.app.mpr ⟨m,h3,h4⟩⟩
theorem E9.le:∀ {l:List (Nat × Nat)} {a b:Nat},E9 a l b->a + l.length<=b
 | [],a,b,h=>gj h
 | (p,n) :: r,a,b,h=>by
  have:=E9.le h.2.2;have:=h.2.1;rw [az];lia
structure HZ (κ:SortKind) (a0:Array Keyed) (lo:Nat) (st:SortSt):Prop where
 kd:kindOf st=κ
 pm:(arrOf st).Perm a0
 fa:failedOf st=none
 cv:E9 0 ((pendingOf st).toList.map QI) lo
theorem HZ.merge {st:SortSt} {lo i:Nat} {Q:Bool->SortSt->Prop} (an:Q2 prog w A s κ lt a0) (h:HZ κ a0 lo st) (hi:i + 1 < (pendingOf st).size) (hlo:lo<=a0.size)
  (q:∀ AG,HZ κ a0 lo AG->(pendingOf AG).size + 1=(pendingOf st).size->(∀ k,lo<=k->Bq (arrOf AG) k=Bq (arrOf st) k)->Q true AG):wpS (model prog w) A E s (mergeAt' i) Q st:=by
 have hl:i < (pendingOf st).toList.length:=by rw [ag]; lia
 have Io:i + 1 < (pendingOf st).toList.length:=by rw [ag]; lia
 obtain ⟨⟨sa,na,p1⟩,ex⟩:∃ x,(pendingOf st).toList[i]=x:=⟨_,rfl⟩
 obtain ⟨⟨sb,nb,p2⟩,ey⟩:∃ y,(pendingOf st).toList[i + 1]=y:=⟨_,rfl⟩
 have e:(pendingOf st).toList=(pendingOf st).toList.take i ++ (sa,na,p1) :: (sb,nb,p2) :: (pendingOf st).toList.drop (i + 2):=by
  conv=>lhs; rw [<-bP i (pendingOf st).toList]
  rw [bh hl,bh Io,ex,ey]
 have tl:((pendingOf st).toList.take i).length=i:=by rw [ah]; lia
 obtain ⟨l1,Xm⟩:∃ l,l=(pendingOf st).toList.take i:=⟨_,rfl⟩
 obtain ⟨l2,el2⟩:∃ l,l=(pendingOf st).toList.drop (i + 2):=⟨_,rfl⟩
 rw [<-Xm,<-el2] at e;rw [<-Xm] at tl;have cv:=h.cv;rw [e,ZG,E9.app] at cv;obtain ⟨m,c1,c2,c3,c5,c6,c8⟩:=cv;dsimp only [QI] at c2 c3 c5 c6 c8;subst c2;have ele:=c8.le;subst tl;refine KP an h.kd h.pm h.fa e c5 c3 c6 (by lia) fun ys pe g y1 y2 y4=>q _ ⟨h.kd,y1,rfl,?_⟩ ?_ ?_
 ·show E9 0 (pe.toList.map QI) lo
  rw [y4,ZG,E9.app];exists sa,c1,rfl,?_
  ·show 1<=na + nb
   lia
  ·show E9 (sa + (na + nb)) _ lo
   rw [<-gh];exact c8
 ·show pe.size + 1=_
  have z1:pe.toList.length=l1.length + (l2.length + 1):=by rw [y4]; simp
  have z2:(pendingOf st).toList.length=l1.length + (l2.length + 1 + 1):=by rw [e]; simp
  rw [ag] at z1 z2;lia
 ·intro k hk;exact y2 k (.inr (by lia))
theorem JF {st:SortSt} {Q:Unit->SortSt->Prop} (an:Q2 prog w A s κ lt a0) (hk:kindOf st=κ) (ha:arrOf st=a0) (hf:failedOf st=none) (hpe:pendingOf st=#[]) (h2:1<=a0.size)
  (h:∀ AG,(arrOf AG).Perm a0->failedOf AG=none->Q () AG):wpS (model prog w) A E s sortRuns' Q st:=by
 have hp:(arrOf st).Perm a0:=by rw [ha]
 refine wpS_bind (wpS_get ?_);dsimp only;have ez:((sortPriv% PySem.Builtin.SortState.a) st).size=a0.size:=by rw [show (sortPriv% PySem.Builtin.SortState.a) st=a0 from ha]
 rw [ez];refine wpS_bind (wpS_mono (wpS_forRange (I:=fun x c AG=>∃ lo,c=(none,lo)/\x<=lo/\lo<=a0.size/\HZ κ a0 lo AG)
  (Q:=fun c AG=>c=(none,a0.size)/\HZ κ a0 a0.size AG) ?step ?fin ?init) ?post)
 case init=>
  exists 0,rfl,ZJ _,ao _,hk,hp,hf;rw [hpe];exact rfl
 case fin=>
  rintro c AG ⟨lo,rfl,q1,q2,q3⟩;have:lo=a0.size:=by lia
  rw [this] at q3 ⊢;exact ⟨rfl,q3⟩
 case step=>
  rintro x c AG _ hx ⟨lo,rfl,q1,q2,q3⟩;dsimp only;by_cases hlo:lo >= a0.size
  ·rw [if_pos hlo];have:lo=a0.size:=by lia
   rw [this] at q3 ⊢;exact wpS_pure ⟨rfl,q3⟩
  rw [if_neg hlo];have hz:=q3.pm.size_eq;refine wpS_bind (JG an q3.kd q3.pm (by lia) (by lia) fun m ys k1 m1 m2=>?_);dsimp only;by_cases hm:m < (sortPriv% PySem.Builtin.minRun) a0.size a0.size 0
  case' pos=>
   rw [if_pos hm];refine wpS_bind (wpS_lift (wpAny_rule ⟨rfl,?_⟩));refine wpS_bind (HN (st:=setArr AG ys) an q3.kd (k1.1.trans q3.pm) (by lia) m1 (by lia) fun zs k2=>?_);simp only [cx,ai,if_false];refine wpS_bind (wpS_get ?_);obtain ⟨n,en⟩:∃ n,n=min (a0.size - lo) ((sortPriv% PySem.Builtin.minRun) a0.size a0.size 0):=⟨_,rfl⟩
   have n1:1<=n:=by lia
   have n2:lo + n<=a0.size:=by lia
   rw [<-en];have kz:Kp (arrOf AG) zs lo:=⟨k2.1.trans k1.1,fun k hk=>(k2.2 k hk).trans (k1.2 k hk)⟩
  case' neg=>
   rw [if_neg hm];refine wpS_bind (wpS_get ?_);obtain ⟨zs,ezs⟩:∃ zs,zs=ys:=⟨_,rfl⟩
   obtain ⟨n,en⟩:∃ n,n=m:=⟨_,rfl⟩
   have n1:1<=n:=by lia
   have n2:lo + n<=a0.size:=by lia
   have kz:Kp (arrOf AG) zs lo:=by rw [ezs]; exact k1
   rw [<-ezs,<-en]
  all_goals
   have S2:HZ κ a0 lo (setArr AG zs):=⟨q3.kd,kz.1.trans q3.pm,q3.fa,q3.cv⟩
   have push:∀ JB,HZ κ a0 lo JB->HZ κ a0 (lo + n) (setPending JB ((pendingOf JB).push (lo,n,0))):=by
    intro JB S4;exists S4.kd,S4.pm,S4.fa;show E9 0 (((pendingOf JB).push (lo,n,0)).toList.map QI) (lo + n)
    rw [bj,ZG,E9.app];exact ⟨lo,S4.cv,rfl,n1,rfl⟩
   cases eb:(pendingOf (setArr AG zs)).back? with
   | none=>
    dsimp only;exact wpS_bind (wpS_modify (wpS_pure ⟨lo + n,rfl,by lia,n2,push _ S2⟩))
   | some bk=>
    obtain ⟨b1,b2,b3⟩:=bk;dsimp only;obtain ⟨pw,epw⟩:∃ pw,pw=(sortPriv% PySem.Builtin.power) a0.size (2 * b1 + b2) (2 * b1 + b2 + b2 + n) a0.size:=⟨_,rfl⟩
    rw [<-epw];refine wpS_bind (wpS_mono (wpS_forRange (I:=fun _ c BN=>c=(none,())/\HZ κ a0 lo BN)
     (Q:=fun c BN=>c=(none,())/\HZ κ a0 lo BN) ?_ (fun _ _ hh=>hh) ⟨rfl,S2⟩) ?_)
    ·rintro y c BN _ _ ⟨rfl,S3⟩;refine wpS_bind (wpS_get ?_);by_cases hps:(pendingOf BN).size > 1
     ·rw [if_pos hps];obtain ⟨⟨o1,o2,o3⟩,eo⟩:∃ o,(pendingOf BN)[(pendingOf BN).size - 2]? = some o:=⟨_,dI (by lia)⟩
      rw [show ((sortPriv% PySem.Builtin.SortState.pending) BN)[((sortPriv% PySem.Builtin.SortState.pending) BN).size - 2]? = some (o1,o2,o3) from eo];dsimp only;by_cases ho:o3<=pw
      ·rw [if_pos ho];exact wpS_pure ⟨rfl,S3⟩
      ·rw [if_neg ho];refine wpS_bind (S3.merge an (by show (pendingOf BN).size - 2 + 1 < _; lia) (by lia) fun Wl S5 _ e5=>?_);simp only [cx,ai,if_false];exact wpS_pure ⟨rfl,S5⟩
     ·rw [if_neg hps];exact wpS_pure ⟨rfl,S3⟩
    ·rintro c BN ⟨rfl,S3⟩;dsimp only;refine wpS_bind (wpS_modify (wpS_bind (wpS_modify (wpS_pure ⟨lo + n,rfl,by lia,n2,?_⟩))));refine push (setPending BN ((pendingOf BN).modify ((pendingOf BN).size - 1) fun x=>(x.fst,x.2.fst,pw))) ⟨S3.kd,S3.pm,S3.fa,?_⟩;show E9 0 (((pendingOf BN).modify ((pendingOf BN).size - 1) fun x=>(x.fst,x.2.fst,pw)).toList.map QI) lo
     rw [Jh (pendingOf BN) ((pendingOf BN).size - 1) (fun x=>(x.fst,x.2.fst,pw)) fun x=>rfl];exact S3.cv
 case post=>
  rintro c AG ⟨rfl,S1⟩;dsimp only;have z1:(pendingOf AG).size<=a0.size:=by
   have:=S1.cv.le;rw [ZA,ag] at this;lia
  refine wpS_bind (wpS_mono (wpS_forRange (I:=fun x c BN=>c=(none,())/\HZ κ a0 a0.size BN/\(pendingOf BN).size + x<=a0.size + 1)
   (Q:=fun c BN=>c=(none,())/\HZ κ a0 a0.size BN/\(pendingOf BN).size<=1) ?_ ?_ ⟨rfl,S1,by lia⟩) ?_)
  ·rintro x c BN _ hx ⟨rfl,S2,z2⟩;refine wpS_bind (wpS_get ?_);by_cases hps:(pendingOf BN).size<=1
   ·rw [if_pos hps];exact wpS_pure ⟨rfl,S2,hps⟩
   ·rw [if_neg hps];refine wpS_bind (S2.merge an ?_ (ZJ _) fun Wl S5 z5 _=>?_)
    ·exact V6 _ _ (by show 1 < (pendingOf BN).size; lia)
    ·simp only [cx,ai,if_false];exact wpS_pure ⟨rfl,S5,by lia⟩
  ·rintro c BN ⟨rfl,S2,z2⟩;exists rfl,S2;lia
  ·rintro c BN ⟨rfl,S2,z2⟩;exact wpS_pure (h BN S2.pm S2.fa)
theorem Qe {a:Addr} {vs:List Value} {n:Nat} {P:Fin->Shared->Prop} (lies:s.heap.get? a=some (seqObj "list" vs.toArray n)) (few:vs.length<=sizeLine)
  (cm:2<=vs.length->∀ h',(∀ b o,b ≠ a->s.heap.get? b=some o->h'.get? b=some o) ->
   ∃ κ,(∀ (Q:SortKind->Shared->Prop) (E:Value->Shared->Prop),Q κ { s with heap:=h' }->wpAny (model prog w) A (keyKind' vs.toArray) Q E { s with heap:=h' })/\Q2 prog w A { s with heap:=h' } κ lt (pairsOf vs))
  (k:∀ out:List Value,out.Perm vs->P (.done (.ret .none)) { s with heap:=sortedHeap s.heap a vs out.toArray }) :
  wpAny (model prog w) A (Builtin.«list.sort» ⟨[.ref a],[]⟩) P E s:=by
 have alt:=ZK lies;rw [list_sort_plain];refine wpAny_bind (listItems_at lies rfl (wpAny_bind (listUpdate_at lies rfl ?_ (by simpa using few) (ao _))));obtain ⟨c,Uk⟩:∃ c,(s.heap.update a (Obj.mapSeq fun _=>#[])).get? a=some (seqObj "list" #[] c):=⟨_,get?_update_seq lies (fun _=>#[])⟩
 refine wpAny_bind (seqEpoch_at Uk rfl (wpAny_bind (wpAny_newTuple (wpAny_bind (wpAny_newList (wpAny_holding ?_) (ao _))) (by simpa using few))));obtain ⟨h3,Yl⟩:∃ h3,h3=((s.heap.update a (Obj.mapSeq fun _=>(#[]:Array Value))).push (seqObj "tuple" vs.toArray 0)).push (seqObj "list" #[] 0):=⟨_,rfl⟩
 have OD:h3.get? a=some (seqObj "list" #[] c):=by
  rw [Yl];exact ZC _ (ZC _ Uk)
 have W3:∀ b o,b ≠ a->s.heap.get? b=some o->h3.get? b=some o:=fun b o hb e=>by
  rw [Yl];exact ZC _ (ZC _ ((eO _ _ _ _ hb).trans e))
 show wpAny (model prog w) A _ P E { s with heap:=((s.heap.update a (Obj.mapSeq fun _=>(#[]:Array Value))).push (seqObj "tuple" vs.toArray 0)).push (seqObj "list" #[] 0) }
 rw [<-Yl];have last:∀ AG:SortSt,(arrOf AG).Perm (pairsOf vs)->P (.done (.ret .none)) { s with heap:=h3.update a (Obj.mapSeq fun _=>(arrOf AG).map (·.2)) }:=fun AG hp=>by
  have e:(arrOf AG).map (·.2)=((arrOf AG).toList.map (·.2)).toArray:=by apply fe.mp; simp
  have q:=k _ (R5 hp);rw [<-e] at q;rw [Yl];exact q
 have zl:∀ AG:SortSt,(arrOf AG).Perm (pairsOf vs)->((arrOf AG).map (·.2)).size<=sizeLine + 1:=fun AG hp=>by
  rw [Array.size_map,hp.size_eq,pairsOf_size];lia
 have zv:vs.toArray.size=vs.length:=rfl;dsimp only;rcases gp vs.toArray.size 2 with lo | hi
 ·rw [if_pos lo,if_pos lo];refine wpAny_bind (wpAny_pure ?_);rw [StateT.run_pure];refine wpAny_bind (wpAny_pure (wpAny_bind (seqEpoch_at OD rfl ?_)));have p0:(arrOf (SortSt.mk' general' (vs.toArray.zip vs.toArray) #[] 7 none)).Perm (pairsOf vs):=Array.Perm.refl _;refine wpAny_bind (listUpdate_at OD rfl ?_ (ao _) (zl _ p0));rw [bne_self_eq_false];exact wpAny_pure (last _ p0)
 ·rw [if_neg (by lia),if_neg (by lia)];obtain ⟨κ,k1,k2⟩:=cm (by lia) h3 W3;refine wpAny_bind (k1 _ _ ?_);refine wpAny_bind (wpAny_mono (JF (a0:=pairsOf vs) (st:=SortSt.mk' κ (vs.toArray.zip vs.toArray) #[] 7 none)
   (Q:=fun _ AG=>(arrOf AG).Perm (pairsOf vs)/\failedOf AG=none) k2 rfl rfl rfl rfl (by rw [pairsOf_size]; lia) fun AG a1 a2=>⟨a1,a2⟩) ?_ fun _ _ e=>e)
  rintro ⟨u,AG⟩ s' ⟨rfl,hp,hf⟩;refine wpAny_bind (seqEpoch_at OD rfl (wpAny_bind (listUpdate_at OD rfl ?_ (ao _) (zl _ hp))));dsimp only;rw [hf,bne_self_eq_false];exact wpAny_pure (last AG hp)
theorem SD {l:Addr} {vs:List Value} {Q:Value->Shared->Prop} (hl:s.heap.IsList l vs.toArray) (few:vs.length<=sizeLine) (cm:Cmpd prog w s lt vs)
  (k:∀ out:List Value,out.Perm vs->Q (.ref (s.heap.objs.size + 1)) { s with heap:=sortedAll s.heap vs out.toArray }) :
  wpAny (model prog w) A (call (.builtin "sorted") [.ref l]) Q E s:=by
 refine Calls.call_function_entry kind_sorted plain_sorted entry_sorted (args_sorted1 _) ?_;unfold Builtin.«sorted»;refine wpAny_bind (m:=checkCount "sorted" 1 1 _) (wpAny_pure (wpAny_bind (collect_list hl ?_ few)));refine wpAny_bind (wpAny_newList ?_ (by simpa using few));obtain ⟨h1,Ym⟩:∃ h1,h1=(s.heap.push (seqObj "list" #[] 0)).update s.heap.objs.size (Obj.mapSeq (· ++ vs.toArray)):=⟨_,rfl⟩
 have z1:h1.objs.size=s.heap.objs.size + 1:=by rw [Ym,fj,size_push']
 have lies:(h1.push (seqObj "list" vs.toArray 0)).get? (s.heap.objs.size + 1)=some (seqObj "list" vs.toArray 0):=by
  rw [<-z1];exact ZM _ rfl
 have keep:∀ b o,s.heap.get? b=some o->(h1.push (seqObj "list" vs.toArray 0)).get? b=some o:=fun b o q=>by
  have hb:=ZK q;refine ZC _ ?_;rw [Ym,eO _ _ _ _ (ZQ hb)];exact ZC _ q
 show wpAny _ _ _ _ _ { s with heap:=((s.heap.push (seqObj "list" #[] 0)).update s.heap.objs.size (Obj.mapSeq (· ++ vs.toArray))).push (seqObj "list" vs.toArray 0) }
 rw [<-Ym,z1];refine wpAny_bind (wpAny_holding (wpAny_call_entry slot_list_sort ⟨_,lies,rfl⟩ entry_list_sort (Qe (lt:=lt) (s:={ s with heap:=h1.push (seqObj "list" vs.toArray 0) }) lies few ?_ fun out o1=>⟨_,rfl,wpAny_pure ⟨_,rfl,?_⟩⟩) (args_list_sort _)))
 ·intro h2 h' kp;exact cm h2 _ h' fun b o e=>kp b o (ZQ (au (ZK e))) (keep b o e)
 ·have q:=k out o1;unfold sortedAll at q;rw [<-Ym] at q;exact q
end
end L2
namespace L2
open PySem PySem.Spec PyProof.Rows
section
variable {prog:Program} {w:World} {A:Around} {E:Value->Shared->Prop} {s:Shared}
end
structure Fn (K:ZD) (mg:Str->Option Value) (nm:Str) (st:Stmt) (ps:List Str) (f:Addr) (fd:FuncData):Prop where
 F:Dm K nm nm st f fd
 mg:mg nm=some (.ref f)
 b:HM K fd ps []
structure OQ (H:Hp) (m:Addr) (n:Nat) (xs:List Str) (ws:List AJ):Prop where
 ex:∃ t1 t2:Addr,∃ vs:List V,H m=some (.tup [.ref t1,.ref t2])/\H t1=some (.tup (xs.map V.str))/\H t2=some (.tup vs)/\AE H vs (ws.map Ee)
 len:xs.length=n
 nd:xs.Nodup
 nm:∀ x ∈ xs,Bm x=true
 wl:ws.length<=100
 wn:∀ u ∈ ws,Bm u.1=true/\Bm u.2.1=true/\1<=u.2.2/\u.2.2 < 10 ^ 30
def iSeq (K:ZD) (tl:TE):TI:=fun σ H R=>tl σ H fun x H1=>∃ a,x=.ref a/\(((∃ xs,AZ K H1 a xs)/\R (Itl K a) H1)\/((∃ xs,Ay K H1 a xs)/\R (Q0 K a) H1))
theorem Vc {X:Cx} {tg l:Expr} {tl:TE} (hl:PE X l tl):PI X tg l (iSeq X.K tl):=by
 intro pins s σ H R I h;refine B0 (hl pins s σ H _ I h) fun v s1 ⟨x,H1,I1,r1,q1⟩=>?_
 obtain ⟨a,e,q1⟩:=q1;subst e;cases r1
 have fp:∀ b ∈ [s1.heap.objs.size],EU X pins H1 b:=fun b hb=>by
  have e:b=s1.heap.objs.size:=by simpa using hb
  subst e;exact I1.fpOk (ZJ _) (I1.hok.fresh (ZJ _))
 rcases q1 with ⟨⟨xs,hq⟩,q⟩ | ⟨⟨xs,hq⟩,q⟩
 ·obtain ⟨Av,rv,p,hz⟩:=I1.list hq;refine wpAny_pyIter_list p.isList ?_;exact ⟨s1.heap.objs.size,[s1.heap.objs.size],_,_,H1,rfl,I1.kept (t':=s1.toks) fun b o e=>ZC _ e,Kc a _,⟨_,ZM _ rfl,rfl,rfl⟩,fp,q⟩
 ·obtain ⟨Av,rv,p,hz⟩:=I1.tuple hq;refine wpAny_pyIter_tuple (show s1.heap.IsTuple a Av.toArray from p) ?_;exact ⟨s1.heap.objs.size,[s1.heap.objs.size],_,_,H1,rfl,I1.kept (t':=s1.toks) fun b o e=>ZC _ e,Iz a _,⟨_,ZM _ rfl,rfl,rfl⟩,fp,q⟩
structure Sj (J:It) (xs:List V) (S:Hp->Prop):Prop where
 go:∀ i H,S H->i < xs.length->J.go i H
 yld:∀ i H x H',S H->J.yld i H x H'->H'=H/\xs[i]? = some x
 stop:∀ H,S H->J.stop xs.length H
theorem C2 {K:ZD} {a:Addr} {xs:List V}:Sj (Itl K a) xs (fun H=>AZ K H a xs):=
 ⟨fun i H q BD=>⟨xs,xs[i],q,by simp [BD]⟩,fun i H x H' q y=>⟨y.1,y.2 xs q⟩,fun H q=>⟨xs,q,ZJ _⟩⟩
theorem Be {K:ZD} {a:Addr} {xs:List V}:Sj (Q0 K a) xs (fun H=>Ay K H a xs):=
 ⟨fun i H q BD=>⟨xs,xs[i],q,by simp [BD]⟩,fun i H x H' q y=>⟨y.1,y.2 xs q⟩,fun H q=>⟨xs,q,ZJ _⟩⟩
theorem AX {J:It} {xs:List V} {S:Hp->Prop} {g:TG} {te:TE} {H:Hp} {σ0:St} {R:Addr->Hp->Prop} (ov:Sj J xs S) (I:Addr->Nat->St->Hp->List V->Prop) (big:xs.length < sizeLine)
  (h0:∀ D,H D=none->I D 0 σ0 (upd H D (.lst [])) [])
  (hs:∀ D i σ H' acc,H D=none->I D i σ H' acc->S H'/\H' D=some (.lst acc)/\acc.length=i)
  (turn:∀ D i σ H' acc x (B:St->V->Hp->Prop),H D=none->xs[i]? = some x->I D i σ H' acc->(∀ AB v H5,H5 D=some (.lst acc)->I D (i + 1) AB (upd H5 D (.lst (acc ++ [v]))) (acc ++ [v])->B AB v H5)->g x σ H' fun AB H3=>te AB H3 (B AB))
  (fin:∀ D σ H' acc,H D=none->I D xs.length σ H' acc->R D H') :
  ∀ D,H D=none->∃ W:Nat->Nat->St->Hp->Prop,(∃ m,W 0 m σ0 (upd H D (.lst []))) /\
   ∀ i m Aw H',W i m Aw H'->(J.stop i H'/\R D H')\/(J.go i H'/\∀ x H2,J.yld i H' x H2->g x Aw H2 fun AB H3=>JI AB H3 fun b H4=>
    if b=true then te AB H4 (fun v H5=>∃ acc,H5 D=some (.lst acc)/\acc.length < sizeLine/\∃ m',m' < m/\W (i + 1) m' AB (upd H5 D (.lst (acc ++ [v])))) else ∃ m',m' < m/\W (i + 1) m' AB H4):=by
 intro D hD;exists fun i m σ H'=>m=xs.length - i/\i<=xs.length/\∃ acc,I D i σ H' acc,⟨xs.length,rfl,ao _,[],h0 D hD⟩
 rintro i m σ H' ⟨rfl,hi,acc,p⟩;obtain ⟨s1,s2,s3⟩:=hs D i σ H' acc hD p;by_cases BD:i < xs.length
 ·refine .inr ⟨ov.go i H' s1 BD,fun x H2 y=>?_⟩;obtain ⟨rfl,ex⟩:=ov.yld i H' x H2 s1 y;have e:∀ (F:St->V->Hp->Prop) (G:St->Hp->Prop),(fun (AB:St) (H3:Hp)=>JI AB H3 fun b H4=>if b=true then te AB H4 (F AB) else G AB H4)=fun AB H3=>te AB H3 (F AB):=by
   intro F G;funext AB H3;show (if true=true then te AB H3 (F AB) else G AB H3)=_
   rw [if_pos rfl]
  rw [e (fun AB v H5=>∃ acc,H5 D=some (.lst acc)/\acc.length < sizeLine/\∃ m',m' < xs.length - i/\(m'=xs.length - (i + 1)/\i + 1<=xs.length/\∃ ES,I D (i + 1) AB (upd H5 D (.lst (acc ++ [v]))) ES)) (fun AB H4=>∃ m',m' < xs.length - i/\(m'=xs.length - (i + 1)/\i + 1<=xs.length/\∃ ES,I D (i + 1) AB H4 ES))];refine turn D i σ H2 acc x _ hD ex p fun AB v H5 d5 p5=>?_
  exact ⟨acc,d5,by lia,xs.length - (i + 1),by lia,rfl,BD,_,p5⟩
 ·have e:i=xs.length:=by lia
  subst e;exact .inl ⟨ov.stop H' s1,fin D σ H' acc hD p⟩
abbrev AY:=Str × Int
def Cm (u:AY):PyData:=.tuple [.str u.1,.int u.2]
structure DP (xs:List Str) (lo:Int) (rs:List AY):Prop where
 sub:∀ r ∈ rs,r.1 ∈ xs
 nd:(rs.map (·.1)).Nodup
 lo:∀ r ∈ rs,lo<=r.2/\r.2 < 10 ^ 30
 one:1<=rs.length
def rk (u:AY):List OS:=[.s u.1,.i u.2]
theorem Nq {H:Hp} {v:V} {u:AY} (h:FC H v (Cm u)):∃ t,v=.ref t/\H t=some (.tup [.str u.1,.int u.2]):=by
 unfold Cm at h;cases h with
 | tup ha hd=>
  cases hd with
  | cons h1 r1=>
   cases r1 with
   | cons h2 r2=>
    cases r2
    cases h1
    cases h2
    exact ⟨_,rfl,ha⟩
theorem FV {H:Hp} {t:Addr} {u:AY} (h:H t=some (.tup [.str u.1,.int u.2])):FC H (.ref t) (Cm u):=.tup h (.cons (.str _) (.cons (.int _) .nil))
theorem Bi {H2 H3:Hp} {vs:List V} {rs:List AY} (h:AE H2 vs (rs.map Cm)) (ht:∀ b xs,H2 b=some (.tup xs)->H3 b=some (.tup xs)):AE H3 vs (rs.map Cm):=by
 induction rs generalizing vs with
 | nil=>cases h; exact .nil
 | cons u rs ih=>
  cases h with
  | cons h1 r=>
   obtain ⟨t,rfl,e⟩:=Nq h1;exact .cons (FV (ht _ _ e)) (ih r)
theorem Bb {H:Hp}:∀ {vs:List V} {rs:List AY} {i:Nat} {x:V},AE H vs (rs.map Cm)->vs[i]? = some x->∃ u t,rs[i]? = some u/\x=.ref t/\H t=some (.tup [.str u.1,.int u.2])
 | _,[],i,x,.nil,e=>by simp at e
 | _,u :: rs,0,x,.cons h r,e=>by
  simp only [aJ,ZZ.injEq] at e;subst e;obtain ⟨t,rfl,q⟩:=Nq h;exact ⟨u,t,rfl,rfl,q⟩
 | _,u :: rs,i + 1,x,.cons h r,e=>by
  obtain ⟨u',t,a,b,c⟩:=Bb r (by simpa using e);exact ⟨u',t,by simpa using a,b,c⟩
theorem A3 {H:Hp}:∀ {vs:List V} {rs:List AY},AE H vs (rs.map Cm)->vs.length=rs.length
 | _,[],.nil=>rfl
 | _,u :: rs,.cons h r=>by rw [az,az,A3 r]
theorem Pt {H:Hp} {vs DR:List V} (p:DR.Perm vs):∀ {rs:List AY},AE H vs (rs.map Cm)->∃ Np:List AY,AE H DR (Np.map Cm)/\Np.Perm rs:=by
 induction p with
 | nil=>intro rs h; exact ⟨rs,h,.refl _⟩
 | cons x p ih=>
  intro rs h;cases rs with
  | nil=>cases h
  | cons u rs=>
   cases h with
   | cons h1 h2=>
    obtain ⟨Np,a,b⟩:=ih h2;exact ⟨u :: Np,.cons h1 a,b.cons u⟩
 | swap x y l=>
  intro rs h;cases rs with
  | nil=>cases h
  | cons u rs=>
   cases h with
   | cons h1 h2=>
    cases rs with
    | nil=>cases h2
    | cons v rs=>
     cases h2 with
     | cons h3 h4=>exact ⟨v :: u :: rs,.cons h3 (.cons h1 h4),.swap u v rs⟩
 | trans p1 p2 Tj Ti=>
  intro rs h;obtain ⟨Ap,a1,b1⟩:=Ti h;obtain ⟨Ar,a2,b2⟩:=Tj a1;exact ⟨Ar,a2,b2.trans b1⟩
theorem Rp {H:Hp} {v:V} {u:AY} (h:FC H v (Cm u)):L9 H (fun i=>decide (i < 1)) v/\Qf H v=rk u:=by
 obtain ⟨t,rfl,ht⟩:=Nq h;exists ⟨t,_,rfl,ht,by simp,fun i y e=>?_⟩
 ·unfold KH;match i,e with
  | 0,e=>cases e; simp
  | 1,e=>cases e; simp
  | n + 2,e=>simp at e
 ·show (match H t with | some (.tup ys)=>ys.map LK | _=>[])=_
  rw [ht];rfl
theorem Kn {H:Hp}:∀ {vs:List V} {rs:List AY},AE H vs (rs.map Cm)->(∀ v ∈ vs,L9 H (fun i=>decide (i < 1)) v)/\vs.map (Qf H)=rs.map rk
 | _,[],.nil=>⟨(fun v hv=>nomatch hv),rfl⟩
 | _,u :: rs,.cons h r=>by
  obtain ⟨a1,a2⟩:=Rp h;obtain ⟨b1,b2⟩:=Kn r;refine ⟨fun v hv=>?_,by rw [ZS,ZS,a2,b2]⟩;rcases ZF.mp hv with rfl | hv
  ·exact a1
  ·exact b1 v hv
theorem DP.perm {xs:List Str} {lo:Int} {rs Np:List AY} (h:DP xs lo rs) (p:Np.Perm rs):DP xs lo Np:=
 ⟨fun r hr=>h.sub r (p.mem_iff.mp hr),(p.map (·.1)).nodup_iff.mpr h.nd,fun r hr=>h.lo r (p.mem_iff.mp hr),by rw [p.length_eq]; exact h.one⟩
def Lim (x:V) (d:PyData):Prop:=(x=.non/\d=.none)\/∃ i:Int,x=.int i/\d=.int i/\1<=i/\i < 10 ^ 30
end L2
namespace L2
open PySem PySem.Spec PySem.W PyProof.Rows
theorem Oi {X:Cx} {pins:List (Addr × Obj)} {σ:St} {H:Hp} {s:Shared} (I:Au X pins σ H s) {kd:Nat->Bool}:∀ {vs:List V} {Av:List Value},AF vs Av->(∀ v ∈ vs,L9 H kd v)->∀ u ∈ Av,NV s.heap kd u
 | _,_,.nil,_,_,hu=>nomatch hu
 | _,_,.cons r1 r2,hk,u,hu=>by
  rcases ZF.mp hu with rfl | hu
  ·exact (UD I r1 (hk _ ae)).1
  ·exact Oi I r2 (fun v hv=>hk v (ZW _ hv)) u hu
theorem Cv {X:Cx}:Bn X (.builtin "sorted") (fun xs H Q=>∃ (a:Addr) (vs:List V) (kd:Nat->Bool),xs=[.ref a]/\AZ X.K H a vs/\(∀ v ∈ vs,L9 H kd v) /\
  ∀ (l:Addr) (DR:List V),H l=none->DR.Perm vs->Q (.ref l) (upd H l (.lst DR))):=by
 intro pins s σ H xs us Q I r h;obtain ⟨a,vs,kd,rfl,ha,hk,q⟩:=h;obtain ⟨u,rfl,ru⟩:=Cj r;cases ru
 obtain ⟨Av,rv,pl,hz⟩:=I.list ha;refine SD pl.isList (by rw [<-rv.length]; exact hz) (Pe (Oi I rv hk)) fun out o1=>?_
 obtain ⟨DR,rv',pv⟩:=OU o1 rv;obtain ⟨e,he⟩:=sortedAll_at s.heap Av out.toArray;exact ⟨.ref (s.heap.objs.size + 1),_,I.laid (o:=.lst DR) (t':=s.toks) (fun b o z=>sortedAll_old z) (ar _) ⟨by rw [pv.length_eq]; exact hz,out,e,rv',he⟩,rfl,q _ DR (I.hok.fresh (ar _)) pv⟩
theorem Gj {X:Cx}:Bn X (.builtin "sorted") (fun xs H Q=>∃ (a:Addr) (vs:List V) (rs:List AY),xs=[.ref a]/\AZ X.K H a vs/\AE H vs (rs.map Cm) /\
  ∀ (l:Addr) (DR:List V) (Np:List AY),H l=none->AE H DR (Np.map Cm)->Np.Perm rs->Q (.ref l) (upd H l (.lst DR))):=by
 intro pins s σ H xs us Q I r h;obtain ⟨a,vs,rs,rfl,ha,hd,q⟩:=h;refine Cv pins s σ H _ us Q I r ⟨a,vs,_,rfl,ha,(Kn hd).1,fun l DR hl pv=>?_⟩;obtain ⟨Np,d1,p1⟩:=Pt pv hd;exact q l DR Np hl d1 p1
theorem Gi {X:Cx}:Bn X (.builtin "sorted") (fun xs H Q=>∃ (a:Addr) (vs:List V) (ws:List AJ),xs=[.ref a]/\AZ X.K H a vs/\AE H vs (ws.map Ee) /\
  ∀ (l:Addr) (DR:List V) (EV:List AJ),H l=none->AE H DR (EV.map Ee)->EV.Perm ws->Q (.ref l) (upd H l (.lst DR))):=by
 intro pins s σ H xs us Q I r h;obtain ⟨a,vs,ws,rfl,ha,hd,q⟩:=h;refine Cv pins s σ H _ us Q I r ⟨a,vs,_,rfl,ha,(JX hd).1,fun l DR hl pv=>?_⟩;obtain ⟨EV,d1,p1⟩:=Qu pv hd;exact q l DR EV hl d1 p1
end L2
namespace L2
open PySem PySem.Spec PyProof.Rows
theorem F0 {H H':Hp} {p:Addr} (hP:A6 H p) (k:A9 p H H'):∀ b ys,H b=some (.tup ys)->H' b=some (.tup ys):=fun b ys z=>k b _ (by
 obtain ⟨_,_,_,q⟩:=hP;exact Cy z q (fun y=>by cases y)) z
theorem OQ.keepT {H H':Hp} {m:Addr} {n:Nat} {xs:List Str} {ws:List AJ} (h:OQ H m n xs ws) (t:∀ b ys,H b=some (.tup ys)->H' b=some (.tup ys)):OQ H' m n xs ws:=by
 obtain ⟨ta,tb,vs,a,b,c,e⟩:=h.ex;exact ⟨⟨ta,tb,vs,t _ _ a,t _ _ b,t _ _ c,Dn e t⟩,h.len,h.nd,h.nm,h.wl,h.wn⟩
theorem Ng {x y x' y':Str} (p:[x',y'].Perm [x,y]) (h:sortedS [x',y']=true):x'=BX x y/\y'=BY x y:=by
 have h1:=EZ h;have h2:[BX x y,BY x y].Pairwise fun a b=>¬ b.cps.toList < a.cps.toList:=by
  refine List.pairwise_pair.mpr ?_;unfold BX BY;by_cases a:y.cps.toList < x.cps.toList
  ·rw [if_pos a,if_neg (fun z=>GH _ (cW a z))];exact fun z=>GH _ (cW a z)
  ·rw [if_neg a];by_cases b:x.cps.toList < y.cps.toList
   ·rw [if_pos b];exact a
   ·rw [if_neg b];exact GH _
 have p2:[BX x y,BY x y].Perm [x,y]:=by
  unfold BX BY;by_cases a:y.cps.toList < x.cps.toList
  ·rw [if_pos a,if_neg (fun z=>GH _ (cW a z))];exact .swap _ _ _
  ·rw [if_neg a];by_cases b:x.cps.toList < y.cps.toList
   ·rw [if_pos b]
   ·rw [if_neg b];have e:x=y:=Dp a b;rw [e]
 have e:=Ki h1 h2 (p.trans p2.symm);simp only [cQ.injEq,and_true] at e;exact e
structure Gr (H:Hp) (m:Addr) (n:Nat) (ps:List Str) (ws:List AJ):Prop where
 at':OQ H m n ps ws
 dr:∃ (xs:List Str) (Gu:List AJ),ps.Perm xs/\ws.Perm (Gu.map Ep)/\Dy xs Gu
 so:sortedS ps=true
 l64:ws.length < 64
theorem Gr.web {H:Hp} {m:Addr} {n:Nat} {ps:List Str} {ws:List AJ} (h:Gr H m n ps ws) (n1:1<=n) (n30:n<=30) :
  ∃ r,J6 H m ps ws r/\(∀ u ∈ ws,1<=u.2.2)/\(∀ x y l l',BP ws x y l->BP ws x y l'->l=l'):=by
 obtain ⟨xs,Gu,pp,wp,wof,sep,jn⟩:=h.dr;have pl:0 < ps.length:=by rw [h.at'.len]; lia
 have hr0:ps[0] ∈ xs:=pp.mem_iff.mp (aN pl);have en:=fun x y l=>K5 wp x y l
 refine ⟨ps[0],⟨⟨h.at'.ex⟩,h.at'.nd,by rw [h.at'.len]; lia,h.l64,fun u hu=>?_,Z9 pl,fun Sp hs hcl z hz=>?_⟩,fun u hu=>(h.at'.wn u hu).2.2.1,fun x y l l' e1 e2=>Qs sep ((en x y l).mp e1) ((en x y l').mp e2)⟩
 ·obtain ⟨q1,q2⟩:=Qr wp (fun u hu=>⟨(wof u hu).1,(wof u hu).2.1⟩) u hu;exact ⟨pp.mem_iff.mpr q1,pp.mem_iff.mpr q2⟩
 ·exact LC.all jn Sp (fun b c hbc=>hcl b c ((Sh wp b c).mpr hbc)) hr0 hs z (pp.mem_iff.mp hz)
theorem Jl:∀ {ns:List Int} {us:List Value},AF (ns.map V.int) us->∃ ts:List (Int × Tok),us=ts.map (fun p=>Value.int p.1 p.2)/\ts.map (·.1)=ns
 | [],_,.nil=>⟨[],rfl,rfl⟩
 | n :: ns,_,.cons r q=>by
  obtain ⟨t,rfl⟩:=r;obtain ⟨ts,rfl,e⟩:=Jl q;exact ⟨(n,t) :: ts,rfl,by rw [ZS,e]⟩
theorem B6 {X:Cx} (hc:X.calm=true):Bn X (.builtin "sum") (fun xs H Q=>∃ (a:Addr) (ns:List Int),xs=[.ref a]/\AZ X.K H a (ns.map V.int)/\Q (.int ns.sum) H):=by
 intro pins s σ H xs us Q I r h;obtain ⟨a,ns,rfl,ha,q⟩:=h;obtain ⟨u,rfl,ru⟩:=Cj r;cases ru
 obtain ⟨Av,rv,pl,hz⟩:=I.list ha;obtain ⟨ts,rfl,e⟩:=Jl rv;have hl:s.heap.IsList a (intItems ts.toArray):=by
  have:=pl.isList;unfold intItems;simpa using this
 refine sum_intListG (I.ok.hd hc) hl fun h' tk t' kk=>?_
 refine ⟨.int ns.sum,H,I.kept (t':=tk) kk,⟨t',?_⟩,q⟩;have:preSum (numAt ts.toArray) ts.toArray.size=ns.sum:=by
  rw [preSum_eq,aK (by simp),<-e]
 rw [this]
theorem JQ:typeLookup (.type "tuple") "keys"=pure none:=by rw [typeLookup_type,builtinLookup_eq_fast]; kernel_rfl
theorem Pg {prog:Program} {w:World} {A:Around} {E:Value->Shared->Prop} {s:Shared} {a:Addr} {o:Obj} {xs:Array Value} {k:Nat} {Q:Option Value->Shared->Prop}
  (hx:s.heap.get? a=some o) (hc:o.cls=.type "tuple") (hdat:o.data=.seq xs k) (hd:o.dict=none) (hA:A.handled=none)
  (h:∀ h' tk,(∀ b ob,s.heap.get? b=some ob->h'.get? b=some ob)->Q none { s with heap:=h',toks:=tk }):wpAny (model prog w) A (getAttr? (.ref a) "keys") Q E s:=by
 obtain ⟨c,dct,dat,sl⟩:=o;simp only at hc hdat hd;subst hc hdat hd;obtain ⟨hp,g,d,tk,os⟩:=s;have hT:∀ VP,(⟨hp,g,d,VP,os⟩:Shared).TypeIs (.ref a) "tuple":=fun _=>⟨_,hx,rfl⟩
 have f1:=sub_AttributeError;have f3:=F.slot_tuple_getattribute.lookup;have f4:=F.slot_tuple_getattribute.bind (.ref a);have f5:=am_tuple_getattr_none;unfold getAttr? getAttrBy? getAttrBy;repeat (any_goals (first | assumption | exact hT _ | ((with_reducible show wpAny _ _ (call (Value.builtin "tuple.__getattribute__") _ _) _ _ _); refine call_meets F.slot_tuple_getattribute (hT _) am_entry_tuple_getattribute (F.args_tuple_getattribute_2 _ _) (meets_getattribute_miss_tuple a xs k sl "keys" _ JQ (by decide +kernel) (by decide +kernel)) ⟨hx,hA,fun h' VP e M9=>?_⟩) | wp_step))
 obtain ⟨t',u',he⟩:=M9.there;show wpAny _ _ (getattributeRaised _ _ _ _ _ _ _) _ _ _
 unfold getattributeRaised;have hE:∀ VP,(⟨h',g,d,VP,os⟩:Shared).TypeIs (.ref e) "AttributeError":=fun _=>⟨_,he,rfl⟩
 repeat (any_goals (first | assumption | exact hE _ | wp_step))
 exact h _ _ M9.keeps
section
variable {prog:Program} {w:World} {A:Around} {R:Result->Shared->Prop} {g0:Heap} {D it l:Addr} {vs:List Value} {ps:List (Str × V)}
theorem OW (hh:A.handled=none) (nI:it ≠ D) (nl:l ≠ it/\l ≠ D) (g1:∀ b o,g0.get? b=some o->b ≠ it/\b ≠ D) (hl:vs.length=ps.length) (rows:∀ (i:Nat) v p,vs[i]? = some v->ps[i]? = some p->U5 g0 v p) (hsz:ps.length < sizeLine) :
  ∀ (m i:Nat) (s:Shared) (kvs:List (Bj × V)) (us:List (Bj × Value)),ps.length - i=m->i<=ps.length->s.heap.IsTupleIter it l i->s.heap.IsTuple l vs.toArray->KV kvs us->kvs.length<=i->s.heap.DictOf (Bd prog w) D us->(∀ b o,g0.get? b=some o->s.heap.get? b=some o) ->
   (∀ h' tk OV,KV (Je kvs (sK (ps.drop i))) OV->h'.DictOf (Bd prog w) D OV->(∀ b o,b ≠ it->b ≠ D->s.heap.get? b=some o->h'.get? b=some o)->R (.ok (.ret .none)) { s with heap:=h',toks:=tk }) ->
   codeAny (model prog w) A (.builtin "dict.update.loop" ⟨[.ref D,.ref it,.int (i:Int) 0,.none],[]⟩) R s:=by
 intro m;induction m with
 | zero=>
  intro i s kvs us hm hi st hL kv kl dd gk r;have e:i=ps.length:=by lia
  refine codeAny_builtin EN ?_;rw [Around.under_plainId Cs _];unfold Builtin.«dict.update.loop»;refine wpAny_bind (wpAny_pyNext_tuple_end hh st hL (by simp; lia) fun h' eb=>?_);refine wpAny_bind (wpAny_pure (wpAny_pure ?_));have MZ:h'.DictOf (Bd prog w) D us:=dd.at fun o q=>eb D o (Ne.symm nI) q
  refine r h' s.toks us ?_ MZ fun b o b1 b2 q=>eb b o b1 q
  rw [e,List.drop_length];exact kv
 | succ m ih=>
  intro i s kvs us hm hi st hL kv kl dd gk r;have BD:i < ps.length:=by lia
  have ev:vs[i]? = some (vs[i]'(by lia)):=Z9 (by lia);have ep:ps[i]? = some ps[i]:=Z9 BD;obtain ⟨a,t,u,e1,ht,ru⟩:=rows i _ _ ev ep;rw [e1] at ev;refine codeAny_builtin EN ?_;rw [Around.under_plainId Cs _];unfold Builtin.«dict.update.loop»;refine wpAny_bind (wpAny_pyNext_tuple_item st hL (x:=.ref a) (by simpa using ev) fun h' AG sb=>?_);obtain ⟨o,ho,hc,n,hd⟩:=id ht;have ha:=(sb.2 a (g1 a o ho).1).trans (gk a o ho);have MZ:h'.DictOf (Bd prog w) D us:=dd.at fun o q=>(sb.2 D (Ne.symm nI)).trans q
  have L':h'.IsTuple l vs.toArray:=by
   obtain ⟨ol,hol,rl⟩:=hL;exact ⟨ol,(sb.2 l nl.1).trans hol,rl⟩
  refine wpAny_bind (wpAny_holding ?_);refine wpAny_bind (wpAny_tryCatch ?_);unfold Builtin.Dict.pairItems;refine wpAny_bind (wpAny_typeOf (T:="tuple") ⟨o,ha,hc⟩ ?_);rw [if_pos (by decide)];refine wpAny_bind (wpAny_seqItems ha hd (wpAny_pure ?_));show wpAny _ A.in1 (holding [Value.str ps[i].1 t,u] (dictSet D (Value.str ps[i].1 t) u)) _ _ _
  have Yw:us.length<=sizeLine:=by rw [<-kv.length]; lia
  refine wpAny_holding (wpAny_dictSet_pairs (k:=Sum.inr ps[i].1) (hsz:=Yw) (HC prog w _ t) MZ fun h2 Ss X2=>?_);have ki:((i:Int) + 1)=((i + 1:Nat):Int):=by lia
  refine wpAny_pure ⟨plainId_quiet Cs _,?_⟩;show codeAny (model prog w) A (.builtin "dict.update.loop" ⟨[.ref D,.ref it,.int ((i:Int) + 1) 0,.none],[]⟩) R _
  rw [ki];have kl2:=CD kvs (Sum.inr ps[i].1:Bj) ps[i].2;have it2:h2.IsTupleIter it l (i + 1):=by
   obtain ⟨oi,hoi,ri⟩:=AG;exact ⟨oi,(X2.2 it nI).trans hoi,ri⟩
  refine ih (i + 1) _ (BM kvs (Sum.inr ps[i].1) ps[i].2) _ (by lia) BD it2 ?_ (kv.put (Sum.inr ps[i].1) ru) (by lia) Ss (fun b ob q=>(X2.2 b (g1 b ob q).2).trans ((sb.2 b (g1 b ob q).1).trans (gk b ob q))) fun h3 UI us3 kv3 dd3 k3=>?_
  ·obtain ⟨ol,hol,rl⟩:=L';exact ⟨ol,(X2.2 l nl.2).trans hol,rl⟩
  ·refine r h3 UI us3 ?_ dd3 fun b ob b1 b2 q=>k3 b ob b1 b2 ((X2.2 b b2).trans ((sb.2 b b1).trans q))
   have ed:ps.drop i=ps[i] :: ps.drop (i + 1):=(bh BD)
   rw [ed];exact kv3
end
section
variable {prog:Program} {w:World} {A:Around} {E:Value->Shared->Prop} {s:Shared}
theorem HY {l:Addr} {vs:List Value} {ps:List (Str × V)} {Q:Value->Shared->Prop} (hh:A.handled=none) {ol:Obj} {nl:Nat} (hl:s.heap.get? l=some ol) (hc:ol.cls=.type "tuple") (hd:ol.data=.seq vs.toArray nl) (hdc:ol.dict=none)
  (hlen:vs.length=ps.length) (rows:∀ (i:Nat) v p,vs[i]? = some v->ps[i]? = some p->U5 s.heap v p) (hsz:ps.length < sizeLine)
  (h:∀ h' tk us,KV (Je [] (sK ps)) us->h'.DictOf (Bd prog w) s.heap.objs.size us->(∀ b o,s.heap.get? b=some o->h'.get? b=some o)->Q (.ref s.heap.objs.size) { s with heap:=h',toks:=tk }):wpAny (model prog w) A (call (.type "dict") [.ref l]) Q E s:=by
 refine callType_codes (Q₁:=fun obj Bc=>obj=.ref s.heap.objs.size/\Bc = { s with heap:=s.heap.push { cls:=.type "dict",data:=.dict #[] } }) F.kt_called_dict (F.kt_typeCall_dict_1 _) F.entry_dict_init (kt_code_dict_new _ ⟨rfl,rfl⟩) ?_;rintro obj Bc ⟨rfl,rfl⟩;have hnew:(s.heap.push { cls:=.type "dict",data:=.dict #[] }).DictOf (Bd prog w) s.heap.objs.size []:=Heap.DictOf.new s.heap;have JS:(s.heap.push { cls:=.type "dict",data:=.dict #[] }).get? l=some ol:=ZC _ hl;exists hnew.typeIs,F.args_dict_init_2 _ _;unfold Builtin.«dict.__init__»;refine wpAny_bind ?_;unfold Builtin.Dict.selfAndRest;refine wpAny_bind (wpAny_notOrdered_dict hnew.typeIs ?_);show wpAny _ _ (pure (s.heap.objs.size,[Value.ref l])) _ _ _
 refine wpAny_pure ?_;show wpAny _ _ (Builtin.Dict.updateFrom "dict.__init__" s.heap.objs.size (.ref l) [] .none) _ _ _
 unfold Builtin.Dict.updateFrom;refine wpAny_bind (wpAny_typeOf (T:="tuple") ⟨ol,JS,hc⟩ ?_);rw [if_pos (by decide)];refine wpAny_bind (Pg JS hc hd hdc hh fun h1 tk1 k1=>?_);simp only [Option.isNone_none,if_true];refine wpAny_bind (wpAny_rule ?_);have Io:h1.IsTuple l vs.toArray:=⟨ol,k1 _ _ JS,hc,nl,hd⟩
 refine wpAny_bind (wpAny_pyIter_tuple Io ?_);have old:∀ b o,s.heap.get? b=some o->h1.get? b=some o:=fun b o q=>k1 b o (ZC _ q)
 obtain ⟨od,esd,epd,hod,rd⟩:=id hnew;have Yj:=k1 _ _ hod;have ltD:=ZK Yj;have ltl:=ZK (k1 _ _ JS);refine wpAny_pure ⟨plainId_quiet Cs _,?_⟩;refine OW (A:=A.in1) (g0:=s.heap) (D:=s.heap.objs.size) (it:=h1.objs.size) (l:=l) (vs:=vs) (ps:=ps) hh (aW ltD) ⟨ZQ ltl,ZQ (ZK hl)⟩ (fun b o q=>⟨ZQ (ZK (old b o q)),ZQ (ZK q)⟩) hlen rows hsz _ 0 { s with heap:=h1.push { cls:=.type "tuple_iterator",data:=.fields #[.ref l,.int 0 0] },toks:=tk1 } [] [] rfl (ao _)
  ⟨_,ZM _ rfl,rfl,rfl⟩ (Io.push _) .nil (ZJ _) ⟨od,esd,epd,ZC _ Yj,rd⟩ (fun b o q=>ZC _ (old b o q)) fun h' tk us kv dd kk=>?_
 rw [cM] at kv;exact ⟨rfl,h h' tk us kv dd fun b o q=>kk b o (ZQ (ZK (old b o q))) (ZQ (ZK q)) (ZC _ (old b o q))⟩
end
theorem Bs {X:Cx} (hc:X.calm=true):Bn X (.type "dict") (fun xs H Q=>∃ (a:Addr) (vs:List V) (ps:List (Str × V)),xs=[.ref a]/\H a=some (.tup vs)/\vs.length=ps.length/\(∀ (i:Nat) v p,vs[i]? = some v->ps[i]? = some p->∃ t,v=.ref t/\H t=some (.tup [.str p.1,p.2]))/\(ps.map (·.1)).Nodup/\ps.length < 1000 /\
  ∀ D,H D=none->Q (.ref D) (upd H D (.dK (sK ps)))):=by
 intro pins s σ H xs us Q I r h;obtain ⟨a,vs,ps,rfl,ha,hl,hk,hn,h1000,q⟩:=h;obtain ⟨u,rfl,ru⟩:=Cj r;cases ru
 obtain ⟨hz,Av,rv,⟨o,ho,K0,n,hdat⟩,dn⟩:=(show AV X.prog X.w H s.heap a (.tup vs) from I.hok a _ ha)
 have Lz:=dn o ho;have il:Av.length=ps.length:=by rw [<-rv.length,hl]
 have big:1000 < sizeLine:=by decide
 refine HY (I.ok.hd hc) (ps:=ps) ho K0 hdat Lz il (fun i v p e1 e2=>?_) (by lia) fun h' tk us kv dd kk=>?_
 ·have hi:i < Av.length:=(ZN.mp e1).1;have e3:vs[i]? = some vs[i]:=Z9 (by lia);obtain ⟨v',e4,r4⟩:=rv.get e3;rw [e1] at e4;cases e4
  obtain ⟨t,e5,ht⟩:=hk i _ p e3 e2;rw [e5] at r4;cases r4
  obtain ⟨JR,VS,pl2,_⟩:=I.tuple (Ay.of ht);cases VS with
  | cons x1 y1=>
   cases y1 with
   | cons x2 y2=>
    cases y2
    obtain ⟨t1,rfl⟩:=x1;exact ⟨t,t1,_,rfl,pl2,x2⟩
 ·have em:Je [] (sK ps)=sK ps:=M7 ps [] (by simpa using hn);rw [em] at kv;refine ⟨.ref s.heap.objs.size,_,I.laid (a:=s.heap.objs.size) (o:=.dK (sK ps)) (t':=tk) kk (ZJ _) (L6 (by rw [CK]; lia) (beq_eq_false_iff_ne.mpr (Ne.symm (ZQ I.big))) kv dd),rfl,q _ (I.hok.fresh (ZJ _))⟩
structure Cc (H:Hp) (c m:Addr) (n:Nat) (xs:List Str) (ws:List AJ) (Ap Ar:List AY) (x:V) (d:PyData):Prop where
 ex:∃ (t1 t2:Addr) (D3 EX:List V),H c=some (.tup [.ref m,.ref t1,.ref t2,x])/\H t1=some (.tup D3)/\AE H D3 (Ap.map Cm)/\H t2=some (.tup EX)/\AE H EX (Ar.map Cm)
 map:Gr H m n xs ws
 n1:1<=n
 n30:n<=30
 ok1:DP xs 0 Ap
 ok2:DP xs 1 Ar
 l1:Ap.length<=10
 l2:Ar.length<=30
 lim:Lim x d
theorem Gr.keepT {H H':Hp} {m:Addr} {n:Nat} {xs:List Str} {ws:List AJ} (h:Gr H m n xs ws) (t:∀ b ys,H b=some (.tup ys)->H' b=some (.tup ys)):Gr H' m n xs ws:=⟨h.at'.keepT t,h.dr,h.so,h.l64⟩
theorem Cc.keepT {H H':Hp} {c m:Addr} {n:Nat} {xs:List Str} {ws:List AJ} {Ap Ar:List AY} {x:V} {d:PyData} (h:Cc H c m n xs ws Ap Ar x d) (t:∀ b ys,H b=some (.tup ys)->H' b=some (.tup ys)):Cc H' c m n xs ws Ap Ar x d:=by
 obtain ⟨t1,t2,D3,EX,a,b,e,f,g⟩:=h.ex;exact ⟨⟨t1,t2,D3,EX,t _ _ a,t _ _ b,Bi e t,t _ _ f,Bi g t⟩,h.map.keepT t,h.n1,h.n30,h.ok1,h.ok2,h.l1,h.l2,h.lim⟩
theorem Cc.same {H H':Hp} {c m:Addr} {n:Nat} {xs:List Str} {ws:List AJ} {Ap Ar:List AY} {x:V} {d:PyData} (h:Cc H c m n xs ws Ap Ar x d) (s:Aq H H'):Cc H' c m n xs ws Ap Ar x d:=h.keepT fun b ys z=>s _ _ z
def Opn (xs ss:List Str):Prop:=ss ≠ []/\ss.Nodup/\∀ s ∈ ss,s ∈ xs
def BI (rs:List AY) (h:Str):Int:=((rs.find? fun r=>decide (r.1=h)).map (·.2)).getD 0
def FN:Sp:=fun vs H Q _=>∃ (c o m:Addr) (n:Nat) (xs ss:List Str) (ws:List AJ) (Ap Ar:List AY) (x:V) (d:PyData),vs=[.ref c,.ref o]/\Cc H c m n xs ws Ap Ar x d/\H o=some (.tup (ss.map V.str))/\Opn (Ap.map (·.1)) ss /\
 ∀ (H':Hp),Aq H H'->Q (.int (ss.map (BI Ap)).sum) H'
theorem Cg {rs:List AY} (h:(rs.map (·.1)).Nodup) {r:AY} (hr:r ∈ rs):BI rs r.1=r.2:=by
 induction rs with
 | nil=>exact nomatch hr
 | cons q rs ih=>
  rw [ZS,aM] at h;unfold BI;rw [bz];by_cases e:q.1=r.1
  ·rw [decide_eq_true e];rcases ZF.mp hr with z | z
   ·rw [z]; rfl
   ·exact absurd (ZO.mpr ⟨_,z,e.symm⟩) h.1
  ·rw [decide_eq_false e];rcases ZF.mp hr with z | z
   ·rw [z] at e; exact absurd rfl e
   ·exact ih h.2 z
def Br (rs:List AY):List (Str × V):=rs.map fun r=>(r.1,.int r.2)
theorem Ck (rs:List AY):(Br rs).map (·.1)=rs.map (·.1):=by unfold Br; rw [aL]; rfl
theorem Fg {H:Hp} {us:List V} {rs:List AY} (h:AE H us (rs.map Cm)):∀ (i:Nat) v p,us[i]? = some v->(Br rs)[i]? = some p->∃ t,v=.ref t/\H t=some (.tup [.str p.1,p.2]):=fun i v p e1 e2=>by
 obtain ⟨u,t,eu,rfl,ht⟩:=Bb h e1;unfold Br at e2;rw [ZL,eu] at e2;cases e2
 exact ⟨t,rfl,ht⟩
theorem EG {H:Hp} {B:Addr} {rs:List AY} (h:H B=some (.dK (sK (Br rs)))) (nd:(rs.map (·.1)).Nodup) {y:Str} (hy:y ∈ rs.map (·.1)):Cn H B (.str y) (some (.int (BI rs y))):=by
 obtain ⟨r,hr,rfl⟩:=ZO.mp hy;rw [Cg nd hr];exact .inl ⟨_,Sum.inr r.1,.inl h,rfl,(DE (nv:=Br rs) (by rw [Ck]; exact nd) (ZO.mpr ⟨r,hr,rfl⟩)).symm⟩
theorem D1 {h h':Heap} {a t:Addr} {i:Nat} (x:h.IsTupleIter a t i) (e:∀ o,h.get? a=some o->h'.get? a=some o):h'.IsTupleIter a t i:=let ⟨o,ho,r⟩:=x; ⟨o,e _ ho,r⟩
section
variable {prog:Program} {w:World} {A:Around} {E:Value->Shared->Prop} {s:Shared}
theorem Cu {it l:Addr} {i:Nat} {items} {x:Value} {Q:Value->Shared->Prop} (hit:s.heap.IsTupleIter it l i)
  (hl:s.heap.IsTuple l items) (hx:items[i]? = some x)
  (hQ:∀ h',h'.IsTupleIter it l (i + 1)->Heap.SameBut it s.heap h'->Q x { s with heap:=h' }) :
  wpAny (model prog w) A (Builtin.SmallTypes.nextOf (.ref it)) Q E s:=by
 obtain ⟨o,ho,hc,hd⟩:=id hit;obtain ⟨ol,hol,_,nl,hdl⟩:=hl;unfold Builtin.SmallTypes.nextOf;refine wpAny_bind (wpAny_callSpecial?_slot (name:=Str.ofString "__next__") hit.typeIs F.slot_tuple_iterator_next
  (wpAny_call_entry F.slot_tuple_iterator_next hit.typeIs F.entry_tuple_iterator_next ?_ (F.args_tuple_iterator_next_1 _)))
 show wpAny _ _ (field (.ref it) 0 >>= _) _ _ s
 refine wpAny_bind (wpAny_field ho hd (x:=.ref l) rfl ?_);show wpAny _ _ (if (Value.ref l == Value.none)=true then _ else _) _ _ s
 rw [if_neg (show ¬ ((Value.ref l == Value.none)=true) from ZV)];show wpAny _ _ (field (.ref it) 1 >>= _) _ _ s
 refine wpAny_bind (wpAny_field ho hd (x:=.int i 0) rfl ?_);show wpAny _ _ (seqItems? (.ref l) >>= _) _ _ s
 refine wpAny_bind (wpAny_seqItems hol hdl ?_);simp only [cq,hx];refine wpAny_bind (wpAny_setField ho hd (by simp) (wpAny_pure ⟨x,rfl,wpAny_pure (hQ _ ?_ (Heap.SameBut.update ..))⟩));exact ⟨_,aE _ ho (Obj.isFreed_of_fields (Obj.data_mapFields hd _)),(Obj.cls_mapFields ..).trans hc,by
  rw [Obj.data_mapFields hd]; simp [rawInt]⟩
theorem Ea {it l:Addr} {i:Nat} {items} {Q:Value->Shared->Prop} (hh:A.handled=none)
  (hit:s.heap.IsTupleIter it l i) (hl:s.heap.IsTuple l items) (hx:items[i]? = none)
  (hE:∀ h' e,Heap.ExtBut it s.heap h'->(∃ o,h'.get? e=some o/\o.cls=.type "StopIteration")->E (.ref e) { s with heap:=h' }) :
  wpAny (model prog w) A (Builtin.SmallTypes.nextOf (.ref it)) Q E s:=by
 obtain ⟨o,ho,hc,hd⟩:=id hit;obtain ⟨ol,hol,_,nl,hdl⟩:=hl;unfold Builtin.SmallTypes.nextOf;refine wpAny_bind (wpAny_callSpecial?_slot (name:=Str.ofString "__next__") hit.typeIs F.slot_tuple_iterator_next
  (wpAny_call_entry F.slot_tuple_iterator_next hit.typeIs F.entry_tuple_iterator_next ?_ (F.args_tuple_iterator_next_1 _)))
 show wpAny _ _ (field (.ref it) 0 >>= _) _ _ s
 refine wpAny_bind (wpAny_field ho hd (x:=.ref l) rfl ?_);show wpAny _ _ (if (Value.ref l == Value.none)=true then _ else _) _ _ s
 rw [if_neg (show ¬ ((Value.ref l == Value.none)=true) from ZV)];show wpAny _ _ (field (.ref it) 1 >>= _) _ _ s
 refine wpAny_bind (wpAny_field ho hd (x:=.int i 0) rfl ?_);show wpAny _ _ (seqItems? (.ref l) >>= _) _ _ s
 refine wpAny_bind (wpAny_seqItems hol hdl ?_);simp only [cq,hx];refine wpAny_bind (wpAny_rule (wpAny_bind (wpAny_setField ho hd (by simp) ?_)));show wpAny _ _ (newExc (.type "StopIteration") [] >>= _) _ _ _
 refine wpAny_bind ?_;simp only [newExc,newTuple];refine wpAny_bind (wpAny_newObj_type ?_ (by size_fits));refine wpAny_bind (m:=firstArgMember _ _) (wpAny_of_eq (a:=Value.none) (by first | rfl | (simp only [firstArgMember]; rfl)) ?_);refine wpAny_newObj_type ?_ (by size_fits);simp only [raiseNew];refine wpAny_bind (wpAny_handled ?_);first | rw [show A.in1.handled=none from hh] | rw [hh]
 refine wpAny_bind (wpAny_pure (wpAny_throw ?_));exact hE _ _ (((Heap.SameBut.update ..).extBut.push _).push _) ⟨_,ZM _ rfl,rfl⟩
end
section
variable {prog:Program} {w:World} {A:Around} {E:Value->Shared->Prop} {s:Shared}
end
theorem Au.turnedT {X:Cx} {pins:List (Addr × Obj)} {σ:St} {H:Hp} {s:Shared} {h':Heap} {t':Nat} {fp:List Addr} {xs:List V} (I:Au X pins σ H s) (hf:∀ b ∈ fp,EU X pins H b)
  (k:∀ b o,b ∉ fp->s.heap.get? b=some o->h'.get? b=some o) (new:AV X.prog X.w (upd H s.heap.objs.size (.tup xs)) h' s.heap.objs.size (.tup xs)) :
  Au X pins σ (upd H s.heap.objs.size (.tup xs)) { s with heap:=h',toks:=t' }:=by
 have hT:H s.heap.objs.size=none:=I.hok.fresh (ZJ _);have fT:=I.fpOk (ZJ _) hT;have nT:∀ b o,s.heap.get? b=some o->b ≠ s.heap.objs.size:=fun b o e z=>absurd (ZK e) (by rw [z]; exact aO _)
 have nH:∀ b u,H b=some u->b ∉ fp:=fun b u e z=>by rw [(hf b z).1] at e; cases e
 refine I.step (g':=s.gens) (d':=s.drawn) (ch:=s.heap.objs.size :: fp) (fun b hb=>?_) (fun b o _ _ hc e _=>k b o (fun z=>hc (ZW _ z)) e) (fun b o _ _ hc e _=>⟨o.slots,k b o (fun z=>hc (ZW _ z)) e⟩)
  (fun b o hc e n=>by rw [Ae (nT b o e)]; exact n) (fun b o hc e=>⟨o,k b o (fun z=>hc (ZW _ z)) e⟩)
  (fun b xs e=>by rw [Ae (Ah e hT)]; exact e) (fun b o u e=>by rw [Ae (Ah e hT)]; exact e) (fun b ps e=>⟨#[],by rw [Ae (Ah e hT),e]; simp⟩) (fun m hm=>?_) (fun b u e=>?_) I.bare
 ·rcases ZF.mp hb with rfl | hb
  ·obtain ⟨_,f1,_,f3,f4,f5⟩:=fT;exact ⟨f3,f1,f4,f5⟩
  ·obtain ⟨_,f1,_,f3,f4,f5⟩:=hf b hb;exact ⟨f3,f1,f4,f5⟩
 ·obtain ⟨o,es,ep,ho,r⟩:=hm;exact ⟨o,es,ep,k _ o (fun z=>(hf _ z).2.1 rfl) ho,r⟩
 ·by_cases z:b=s.heap.objs.size
  ·subst z;rw [Ab] at e;cases e
   exact new
  ·rw [Ae z] at e;refine (I.hok b u e).stay (fun c v hc q=>k c v ?_ q) (fun c q=>by rw [Ae (Ah q hT)]; exact q) fun c xs q=>by rw [Ae (Ah q hT)]; exact q
   rcases hc with z | z
   ·rw [z]; exact nH b u e
   ·exact nH c _ z
theorem Au.turnedL {X:Cx} {pins:List (Addr × Obj)} {σ:St} {H:Hp} {s:Shared} {h':Heap} {t':Nat} {fp:List Addr} (I:Au X pins σ H s) (hf:∀ b ∈ fp,EU X pins H b)
  (k:∀ b o,b ∉ fp->s.heap.get? b=some o->h'.get? b=some o):Au X pins σ H { s with heap:=h',toks:=t' }:=by
 have nH:∀ b u,H b=some u->b ∉ fp:=fun b u e z=>by rw [(hf b z).1] at e; cases e
 refine I.step (g':=s.gens) (d':=s.drawn) (ch:=fp) (fun b hb=>?_) (fun b o _ _ hc e _=>k b o hc e) (fun b o _ _ hc e _=>⟨o.slots,k b o hc e⟩) (fun _ _ _ _ n=>n)
  (fun b o hc e=>⟨o,k b o hc e⟩) (fun _ _ e=>e) (fun _ _ _ e=>e) (fun b ps e=>⟨#[],by rw [e]; simp⟩) (fun m hm=>?_) (fun b u e=>?_) I.bare
 ·obtain ⟨_,f1,_,f3,f4,f5⟩:=hf b hb;exact ⟨f3,f1,f4,f5⟩
 ·obtain ⟨o,es,ep,ho,r⟩:=hm;exact ⟨o,es,ep,k _ o (fun z=>(hf _ z).2.1 rfl) ho,r⟩
 ·refine (I.hok b u e).stay (fun c v hc q=>k c v ?_ q) (fun _ q=>q) fun _ _ q=>q
  rcases hc with z | z
  ·rw [z]; exact nH b u e
  ·exact nH c _ z
theorem JU {X:Cx} (hc:X.calm=true) (hu:X.A.units + 64 < cLine):Bn X (.builtin "min") (fun xs H Q=>∃ (a:Addr) (vs:List V) (ks:List (Int × Str)),xs=[.ref a]/\H a=some (.lst vs)/\vs.length=ks.length/\ks ≠ []/\(∀ (i:Nat) v k,vs[i]? = some v->ks[i]? = some k->J8 H v k) /\
  ∀ v k,k ∈ ks->J8 H v k->(∀ k' ∈ ks,D4 k k')->Q v H):=by
 intro pins s σ H xs us Q I r h;obtain ⟨a,vs,ks,rfl,ha,hl,hne,hk,q⟩:=h;obtain ⟨u,rfl,ru⟩:=Cj r;cases ru
 obtain ⟨Av,rv,pl,hz⟩:=I.list (AZ.of ha);have il:Av.length=ks.length:=by rw [<-rv.length,hl]
 have pos:0 < ks.length:=bE.mpr hne;have kat:∀ (i:Nat) (v:Value),Av[i]? = some v->∃ k,ks[i]? = some k/\Dz s.heap v k/\∃ x,vs[i]? = some x/\AM x v:=fun i v e=>by
  have hi:i < Av.length:=(ZN.mp e).1;have e1:vs[i]? = some vs[i]:=Z9 (by lia);have e2:ks[i]? = some ks[i]:=Z9 (by lia);obtain ⟨v',e3,r3⟩:=rv.get e1;rw [e] at e3;cases e3
  exact ⟨_,e2,(hk i _ _ e1 e2).at I r3,_,e1,r3⟩
 refine G8 (bt:=fun i j=>Qb (ks.getD i default) (ks.getD j default)) (I.ok.hd hc) pl.isList (by lia) (fun i j vi vj s' Q' E' g hi hj hQ=>?_) fun v h2 tk hv k2=>?_
 ·obtain ⟨ki,e1,a1,_⟩:=kat i vi hi;obtain ⟨kj,e2,a2,_⟩:=kat j vj hj;have d1:ks.getD i default=ki:=by rw [ZP,e1]; rfl
  have d2:ks.getD j default=kj:=by rw [ZP,e2]; rfl
  dsimp only at hQ;rw [d1,d2] at hQ;exact Lu (a1.keep g) (a2.keep g) (by rw [PySem.Around.in1_units]; lia) _ _ _ _ hQ
 ·obtain ⟨k,e1,a1,x,e3,r3⟩:=kat _ v hv;obtain ⟨b1,b2⟩:=ER (fun i j=>Qb (ks.getD i default) (ks.getD j default)) (fun i=>ks.getD i default) (fun _ _=>Lv) (fun _ _=>Lw) (Av.length - 1);refine ⟨x,H,I.kept k2,r3,q x k (ZE e1) (hk _ x k e3 e1) fun k' Us=>?_⟩;obtain ⟨j,hj,ej⟩:=ab Us;have:=b2 j (by lia);have d1:ks.getD (argBest (fun i j=>Qb (ks.getD i default) (ks.getD j default)) (Av.length - 1)) default=k:=by rw [ZP,e1]; rfl
  have d2:ks.getD j default=k':=by rw [ZP,Z9 hj,ej]; rfl
  rw [d1,d2] at this;exact this
def BU (H:Hp) (A:Addr) (xs:List Str) (ws:List AJ):Prop:=∃ (M:Str->Str->Option Int) (c:Nat),MD H A M c/\∀ x ∈ xs,∀ y ∈ xs,∃ n,M x y=some n/\KI ws x y n/\0<=n/\n < 2 ^ 300
theorem BU.same {H H':Hp} {A:Addr} {xs:List Str} {ws:List AJ} (h:BU H A xs ws) (s:Aq H H'):BU H' A xs ws:=let ⟨M,c,a,b⟩:=h; ⟨M,c,a.same s,b⟩
theorem DF {J:It} {xs:List V} {S:Hp->Prop} {g:TG} {tt:TT} {te:TE} {H:Hp} {σ0:St} {R:Addr->Hp->Prop} (ov:Sj J xs S) (I:Addr->Nat->St->Hp->List V->Prop) (big:xs.length < sizeLine)
  (h0:∀ D,H D=none->I D 0 σ0 (upd H D (.lst [])) [])
  (hs:∀ D i σ H' acc,H D=none->I D i σ H' acc->S H'/\H' D=some (.lst acc)/\acc.length<=i)
  (turn:∀ D i σ H' acc x (B:St->V->Hp->Prop) (N:St->Hp->Prop),H D=none->xs[i]? = some x->I D i σ H' acc->(∀ AB v H5,H5 D=some (.lst acc)->I D (i + 1) AB (upd H5 D (.lst (acc ++ [v]))) (acc ++ [v])->B AB v H5) ->
   (∀ AB H4,I D (i + 1) AB H4 acc->N AB H4)->g x σ H' fun AB H3=>tt AB H3 fun b H4=>if b=true then te AB H4 (B AB) else N AB H4)
  (fin:∀ D σ H' acc,H D=none->I D xs.length σ H' acc->R D H') :
  ∀ D,H D=none->∃ W:Nat->Nat->St->Hp->Prop,(∃ m,W 0 m σ0 (upd H D (.lst []))) /\
   ∀ i m Aw H',W i m Aw H'->(J.stop i H'/\R D H')\/(J.go i H'/\∀ x H2,J.yld i H' x H2->g x Aw H2 fun AB H3=>tt AB H3 fun b H4=>
    if b=true then te AB H4 (fun v H5=>∃ acc,H5 D=some (.lst acc)/\acc.length < sizeLine/\∃ m',m' < m/\W (i + 1) m' AB (upd H5 D (.lst (acc ++ [v])))) else ∃ m',m' < m/\W (i + 1) m' AB H4):=by
 intro D hD;exists fun i m σ H'=>m=xs.length - i/\i<=xs.length/\∃ acc,I D i σ H' acc,⟨xs.length,rfl,ao _,[],h0 D hD⟩
 rintro i m σ H' ⟨rfl,hi,acc,p⟩;obtain ⟨s1,s2,s3⟩:=hs D i σ H' acc hD p;by_cases BD:i < xs.length
 ·refine .inr ⟨ov.go i H' s1 BD,fun x H2 y=>?_⟩;obtain ⟨rfl,ex⟩:=ov.yld i H' x H2 s1 y;refine turn D i σ H2 acc x (fun AB v H5=>∃ acc,H5 D=some (.lst acc)/\acc.length < sizeLine/\∃ m',m' < xs.length - i/\(m'=xs.length - (i + 1)/\i + 1<=xs.length/\∃ ES,I D (i + 1) AB (upd H5 D (.lst (acc ++ [v]))) ES)) (fun AB H4=>∃ m',m' < xs.length - i/\(m'=xs.length - (i + 1)/\i + 1<=xs.length/\∃ ES,I D (i + 1) AB H4 ES)) hD ex p (fun AB v H5 d5 p5=>?_) fun AB H4 p4=>?_
  ·exact ⟨acc,d5,by lia,xs.length - (i + 1),by lia,rfl,BD,_,p5⟩
  ·exact ⟨xs.length - (i + 1),by lia,rfl,BD,_,p4⟩
 ·have e:i=xs.length:=by lia
  subst e;exact .inl ⟨ov.stop H' s1,fin D σ H' acc hD p⟩
theorem QT {l m:List Int} (p:l.Perm m):l.sum=m.sum:=by
 induction p with
 | nil=>rfl
 | cons x _ ih=>rw [aI,aI,ih]
 | swap x y l=>simp only [aI]; lia
 | trans _ _ Tj Ti=>exact Tj.trans Ti
theorem Kd {rs:List AY} {ss:List Str} (nd:(rs.map (·.1)).Nodup) (snd:ss.Nodup) (sub:∀ s ∈ ss,s ∈ rs.map (·.1)):((rs.filter fun r=>decide (r.1 ∈ ss)).map (·.2)).sum=(ss.map (BI rs)).sum:=by
 have p:((rs.filter fun r=>decide (r.1 ∈ ss)).map (·.1)).Perm ss:=by
  refine Hs ?_ snd fun x=>⟨fun h=>?_,fun h=>?_⟩
  ·exact (List.Sublist.map _ bX).nodup nd
  ·obtain ⟨r,hr,rfl⟩:=ZO.mp h;exact of_decide_eq_true (aU.mp hr).2
  ·obtain ⟨r,hr,e⟩:=ZO.mp (sub x h);exact ZO.mpr ⟨r,aU.mpr ⟨hr,by rw [decide_eq_true_eq,e]; exact h⟩,e⟩
 have e:(rs.filter fun r=>decide (r.1 ∈ ss)).map (·.2)=((rs.filter fun r=>decide (r.1 ∈ ss)).map (·.1)).map (BI rs):=by
  rw [aL];refine bF fun r hr=>?_
  exact (Cg nd (aU.mp hr).1).symm
 rw [e];exact QT (p.map _)
theorem Bl.app' {ws:List AJ} {x y z:Str} {m n:Int} (h:Bl ws x y m) (g:Bl ws y z n):Bl ws x z (m + n):=by
 induction h with
 | nil x=>rw [dh]; exact g
 | cons e _ ih=>rw [cy]; exact .cons e (ih g)
theorem NC {xs:List Str} {ws:List AJ} (jn:LC xs ws) {L:Int} (L0:0<=L) (hL:∀ u ∈ ws,u.2.2<=L) (hp:∀ u ∈ ws,1<=u.2.2) {r:Str} (hr:xs[0]? = some r):∀ (j:Nat) x,xs[j]? = some x->∃ m,Bl ws x r m/\0<=m/\m<=j * L:=by
 intro j;induction j using Nat.strongRecOn with
 | ind j ih=>
  intro x hx;by_cases z:j=0
  ·subst z;rw [hr] at hx;cases hx
   exact ⟨0,.nil _,aV _,by simp⟩
  ·obtain ⟨u,hu,i,hij,e1,e2⟩:=jn j (by lia) (ZN.mp hx).1;rw [hx] at e2;cases e2
   obtain ⟨m,w,m0,ml⟩:=ih i hij _ e1;have hl:=hL u hu;have hq:=hp u hu;exists u.2.2 + m,.cons ⟨u,hu,.inr ⟨rfl,rfl⟩,rfl⟩ w,by lia
   have:((i:Int) + 1) * L<=j * L:=bq (by lia) L0;rw [gx,Int.one_mul] at this;lia
theorem Gr.sums {H:Hp} {m:Addr} {n:Nat} {ps:List Str} {ws:List AJ} (h:Gr H m n ps ws) (n1:1<=n) (n30:n<=30):∀ x ∈ ps,∀ y ∈ ps,∃ k,Bl ws x y k/\0<=k/\k < 2 ^ 300:=by
 obtain ⟨xs,Gu,pp,wp,wof,sep,jn⟩:=h.dr;have en:=fun x y l=>K5 wp x y l
 have xl:xs.length=n:=by rw [<-pp.length_eq]; exact h.at'.len
 have hr:xs[0]? = some (xs[0]'(by lia)):=Z9 _;have hL:∀ u ∈ Gu,u.2.2<=10 ^ 30:=fun u hu=>by
  have:=(h.at'.wn (Ep u) (wp.mem_iff.mpr (ZO.mpr ⟨u,hu,rfl⟩))).2.2.2;have e:(Ep u).2.2=u.2.2:=rfl;lia
 have one:∀ x ∈ ps,∃ k,Bl Gu x (xs[0]'(by lia)) k/\0<=k/\k<=30 * 10 ^ 30:=fun x hx=>by
  obtain ⟨j,hj,ej⟩:=ab (pp.mem_iff.mp hx);obtain ⟨k,a,b,c⟩:=NC jn (by decide) hL (fun u hu=>(wof u hu).2.2.2) hr j x (by rw [Z9 hj,ej]);refine ⟨k,a,b,eA c (bq (by lia) (by decide))⟩
 intro x hx y hy;obtain ⟨k1,a1,b1,c1⟩:=one x hx;obtain ⟨k2,a2,b2,c2⟩:=one y hy;have a3:=(QG en).mpr (Bl.app' a1 a2.symm);exact ⟨k1 + k2,a3,by lia,by lia⟩
theorem Bl.pos' {ws:List AJ} (hp:∀ u ∈ ws,1<=u.2.2) {x y:Str} {m:Int} (h:Bl ws x y m):0<=m:=by
 induction h with
 | nil=>exact aV _
 | cons e _ ih=>obtain ⟨u,hu,_,rfl⟩:=e; have:=hp u hu; lia
theorem Gr.bound {H:Hp} {m:Addr} {n:Nat} {ps:List Str} {ws:List AJ} (h:Gr H m n ps ws) (n1:1<=n) (n30:n<=30) {x y:Str} (hx:x ∈ ps) (hy:y ∈ ps) {k:Int} (d:KI ws x y k):0<=k/\k < 2 ^ 300:=by
 obtain ⟨k',a,_,c⟩:=h.sums n1 n30 x hx y hy;exact ⟨d.1.pos' fun u hu=>(h.at'.wn u hu).2.2.1,cZ (d.2 k' a) c⟩
theorem FW.doneW {ws:List AJ} {xs:List Str} (he:∀ u ∈ ws,u.1 ∈ xs/\u.2.1 ∈ xs) (ex:∀ x ∈ xs,∀ y ∈ xs,∃ m,Bl ws x y m) {M:Str->Str->Option Int} (h:FW ws xs xs.length M):∀ x ∈ xs,∀ y ∈ xs,∃ n,M x y=some n/\KI ws x y n:=by
 intro x hx y hy;obtain ⟨m,hm⟩:=ex x hx y hy;have low:∀ m,Bl ws x y m->∃ n,M x y=some n/\n<=m:=fun m g=>by
  rcases g.wi he with ⟨rfl,rfl⟩ | g
  ·exact h.diag x hx
  ·refine h.comp x y m ?_;rw [ZY];exact g
 obtain ⟨n,e,_⟩:=low m hm;refine ⟨n,e,h.sound x y n e,fun m' g=>?_⟩;obtain ⟨n',e',l⟩:=low m' g;rw [e] at e';cases e'
 exact l
theorem Gr.apart {H:Hp} {m:Addr} {n:Nat} {ps:List Str} {ws:List AJ} (h:Gr H m n ps ws) {u:AJ} (hu:u ∈ ws):u.1 ≠ u.2.1:=by
 obtain ⟨xs,Gu,pp,wp,wof,_⟩:=h.dr;obtain ⟨v,hv,rfl⟩:=ZO.mp (wp.mem_iff.mp hu);have ne:=(wof v hv).2.2.1;show BX v.1 v.2.1 ≠ BY v.1 v.2.1
 unfold BX BY;by_cases a:v.2.1.cps.toList < v.1.cps.toList
 ·rw [if_pos a,if_neg (fun z=>GH _ (cW a z))];exact fun z=>ne z.symm
 ·rw [if_neg a];by_cases b:v.1.cps.toList < v.2.1.cps.toList
  ·rw [if_pos b]; exact ne
  ·exact absurd (Dp a b) ne
end L2
namespace L2
open PySem
theorem ME {K:ZD} {a:Addr} {xs:List V} {g:TG} {tb:TS} {D:Gs} {σ:St} {H:Hp} (Pv:Nat->St->Hp->Prop) (h0:Pv 0 σ H) (hl:∀ i σ H,i<=xs.length->Pv i σ H->Ay K H a xs)
  (hs:∀ i x σ H,xs[i]? = some x->Pv i σ H->∀ (rt:VK) (bk:St->Hp->Prop),g x σ H fun AB H2=>tb ⟨Pv (i + 1),rt,bk,Pv (i + 1)⟩ AB H2) (hd:∀ σ H,Pv xs.length σ H->D.nx σ H) :
  ∃ W:Nat->Nat->St->Hp->Prop,(∃ m,W 0 m σ H)/\∀ i m σ H,W i m σ H ->
   ((Q0 K a).stop i H/\D.nx σ H)\/((Q0 K a).go i H/\∃ N:St->Hp->Prop,(∀ Aw H',N Aw H'->∃ m',m' < m/\W (i + 1) m' Aw H')/\∀ x H',(Q0 K a).yld i H x H'->g x σ H' fun AB H2=>tb { D with nx:=N,ct:=N,bk:=D.nx } AB H2):=
 OK Pv h0 hl (fun i x σ H hx hp=>hs i x σ H hx hp D.rt D.nx) hd
theorem Qq {a:Addr} {kvs:List (Bj × V)} {o:Obj} {g:TG} {tb:TS} {D:Gs} {σ:St} {H:Hp} (Pv:Nat->St->Hp->Prop) (h0:Pv 0 σ H) (hl:∀ i σ H,i<=kvs.length->Pv i σ H->H a=some (.frz o (.dK kvs)))
  (hs:∀ i k v σ H,kvs[i]? = some (k,v)->Pv i σ H->∀ (rt:VK) (bk:St->Hp->Prop),g (kV k) σ H fun AB H2=>tb ⟨Pv (i + 1),rt,bk,Pv (i + 1)⟩ AB H2) (hd:∀ σ H,Pv kvs.length σ H->D.nx σ H) :
  ∃ W:Nat->Nat->St->Hp->Prop,(∃ m,W 0 m σ H)/\∀ i m σ H,W i m σ H ->
   ((U9 a kvs o).stop i H/\D.nx σ H)\/((U9 a kvs o).go i H/\∃ N:St->Hp->Prop,(∀ Aw H',N Aw H'->∃ m',m' < m/\W (i + 1) m' Aw H')/\∀ x H',(U9 a kvs o).yld i H x H'->g x σ H' fun AB H2=>tb { D with nx:=N,ct:=N,bk:=D.nx } AB H2):=
 RW Pv h0 hl (fun i k v σ H hx hp=>hs i k v σ H hx hp D.rt D.nx) hd
theorem Cb {K:ZD} {a:Addr} {xs:List V} {g:TG} {tb:TS} {D:Gs} {σ:St} {H:Hp} (Pv:Nat->St->Hp->Prop) (h0:Pv 0 σ H) (hl:∀ i σ H,i<=xs.length->Pv i σ H->Ay K H a xs)
  (hs:∀ i x σ H,xs[i]? = some x->Pv i σ H->∀ (rt:VK) (bk N:St->Hp->Prop),(∀ σ H,Pv (i + 1) σ H->N σ H)->g x σ H fun AB H2=>tb ⟨N,rt,bk,N⟩ AB H2) (hd:∀ σ H,Pv xs.length σ H->D.nx σ H) :
  ∃ W:Nat->Nat->St->Hp->Prop,(∃ m,W 0 m σ H)/\∀ i m σ H,W i m σ H ->
   ((Q0 K a).stop i H/\D.nx σ H)\/((Q0 K a).go i H/\∃ N:St->Hp->Prop,(∀ Aw H',N Aw H'->∃ m',m' < m/\W (i + 1) m' Aw H')/\∀ x H',(Q0 K a).yld i H x H'->g x σ H' fun AB H2=>tb { D with nx:=N,ct:=N,bk:=D.nx } AB H2):=
 OK Pv h0 hl (fun i x σ H hx hp=>hs i x σ H hx hp D.rt D.nx _ fun _ _ z=>z) hd
end L2
namespace L2
open PySem PySem.Spec PyProof.Rows
section
variable {X:Cx} {pins:List (Addr × Obj)} {σ Aw:St} {H H':Hp} {s2 s':Shared} {scope:Scope} {cl:List (Str × Addr)} {N:List Str} {fp:List Addr} {C D:Addr} {B3 h':Heap} {t':Nat}
end
end L2
namespace L2
open PySem PySem.Spec PySem.W PyProof.Rows
end L2
namespace L2
open PySem PySem.Spec PyProof.Rows
theorem B7 (K:ZD) {X:Cx} (h:X.K=K):Bn X (.builtin "len") (fun xs H Q=>∃ p vs,xs=[V.ref p]/\(AZ K H p vs\/Ay K H p vs)/\Q (.int vs.length) H):=by subst h; exact AI
theorem Mh (K:ZD) {X:Cx} {tg l:Expr} {tl:TE} (h:X.K=K) (hl:PE X l tl):PI X tg l (Uo K tl):=by subst h; exact Fh hl
theorem AR (K:ZD) {X:Cx} {tg l:Expr} {tl:TE} (h:X.K=K) (hl:PE X l tl):PI X tg l (iTup K tl):=by subst h; exact G3 hl
def JW (h:Heap) (v:Value) (ss:List Str):Prop:=∃ a us,v=.ref a/\IsTup h a us.toArray/\AF (ss.map V.str) us
theorem JZ {us vs:List Value} {xs:List Str} (r1:AF (xs.map V.str) us) (j:Nat) (hj:j < us.length):∃ t x,xs[j]? = some x/\us[j]=.str x t:=by
 have l1:=r1.length;rw [ZA] at l1;have e:(xs.map V.str)[j]? = some (V.str (xs[j]'(by lia))):=by rw [ZL,Z9 (by lia)]; rfl
 obtain ⟨u,e1,r⟩:=r1.get e;obtain ⟨t,rfl⟩:=r;rw [Z9 hj] at e1;exact ⟨t,_,Z9 (by lia),ZZ.inj e1⟩
theorem JY {us:List Value}:∀ {xs ys:List Str},AF (xs.map V.str) us->AF (ys.map V.str) us->xs=ys:=by
 induction us with
 | nil=>
  intro xs ys r1 r2;cases xs with
  | nil=>cases ys with | nil=>rfl | cons _ _=>cases r2
  | cons _ _=>cases r1
 | cons u us ih=>
  intro xs ys r1 r2;cases xs with
  | nil=>cases r1
  | cons x xs=>
   cases ys with
   | nil=>cases r2
   | cons y ys=>
    cases r1 with
    | cons a1 b1=>
     cases r2 with
     | cons a2 b2=>
      obtain ⟨t,e⟩:=a1;obtain ⟨t',e'⟩:=a2;rw [e] at e';cases e'
      rw [ih b1 b2]
theorem Tu {A:Around} {s:Shared} {v w:Value} {xs ys:List Str} (hv:JW s.heap v xs) (hw:JW s.heap w ys) (hu:A.units < cLine):SeqAt.EqAt A s v w (decide (xs=ys)):=by
 obtain ⟨a,us,rfl,ha,r1⟩:=hv;obtain ⟨b,vs,rfl,hb,r2⟩:=hw;by_cases hab:a=b
 ·subst hab;have e:xs=ys:=by
   obtain ⟨o,ho,hc,n,hd⟩:=ha;obtain ⟨o',Im,K0,n',Lz⟩:=hb;rw [ho] at Im;cases Im
   rw [hd] at Lz;injection Lz with e1 e2;have e3:=congrArg cA e1;simp only at e3;subst e3;exact JY r1 r2
  rw [decide_eq_true e];intro prog w E Q h;unfold eqBool;refine wpAny_holding ?_;exact wpAny_ite_split (fun _=>wpAny_bind (wpAny_rule (wpAny_pure h))) (fun hn=>absurd (by simp) hn)
 ·have l1:=r1.length;have l2:=r2.length;rw [ZA] at l1 l2;have key:=SeqAt.RcAt.tuples (A:=A) (s:=s) (e:=fun j=>xs[j]? == ys[j]?) (show s.heap.IsTuple a us.toArray from ha) (show s.heap.IsTuple b vs.toArray from hb) hu (fun j h1 h2=>by
   obtain ⟨t,x,e1,e2⟩:=JZ (vs:=us) r1 j (by simpa using h1);obtain ⟨t',y,e3,e4⟩:=JZ (vs:=vs) r2 j (by simpa using h2);rw [eK,eK,e2,e4,e1,e3];have:=SeqAt.EqAt.str_str x t y t' (A:=A.in1) (s:=s);exact this)
  have e:((aP (min us.toArray.size vs.toArray.size)).all (fun j=>xs[j]? == ys[j]?) && us.toArray.size == vs.toArray.size)=decide (xs=ys):=by
   rw [aZ,aB,aG,decide_eq_true_iff];simp only [bO,ZU,beq_iff_eq];constructor
   ·rintro ⟨h1,h2⟩;refine eX fun j=>?_
    by_cases hj:j < us.length
    ·exact h1 j (by lia)
    ·rw [eB (by lia),eB (by lia)]
   ·rintro rfl;exact ⟨fun j _=>rfl,by lia⟩
  rw [e] at key;exact SeqAt.EqAt.of_refs hab key
section
open PySem.SeqAt
open PySem.AutoSeq1 (wpAny_loadPart')
open PySem.MeetsSeq PySem.MeetsSeq2 PySem.MeetsSeq3
end
section
open PySem.SeqAt
open PySem.AutoSeq1 (wpAny_loadPart')
open PySem.MeetsSeq PySem.MeetsSeq2 PySem.MeetsSeq3
end
section
variable {prog:Program} {w:World} {A:Around} {R:Result->Shared->Prop} {I:Addr} {fp wr:List Addr} {n:Nat} {P:Nat->Value->Prop} {St:Nat->Heap->Prop} {g0:Heap}
end
section
variable {prog:Program} {w:World} {A:Around} {E:Value->Shared->Prop} {s:Shared}
end
theorem TR {X:Cx} {pins:List (Addr × Obj)} {σ:St} {H:Hp} {s:Shared} {l:Addr} {ss:List Str} (I:Au X pins σ H s) (h:H l=some (.tup (ss.map V.str))):JW s.heap (.ref l) ss:=by
 obtain ⟨Av,rv,pl,hz⟩:=I.tuple (Ay.of h);exact ⟨l,Av,rfl,pl,rv⟩
section
variable {X:Cx} {pins:List (Addr × Obj)} {σ:St} {H:Hp} {s:Shared}
end
theorem Mp (K:ZD) {X:Cx} (h:X.K=K):EA X (binaryOp .Add) (Ud K):=by subst h; exact SR
inductive BR (H:Hp):List V->List (List Str)->Prop
 | nil:BR H [] []
 | cons {t:Addr} {us:List V} {f:List Str} {fs:List (List Str)}:H t=some (.tup (f.map V.str))->BR H us fs->BR H (.ref t :: us) (f :: fs)
theorem BR.len {H:Hp} {us:List V} {fs:List (List Str)} (h:BR H us fs):us.length=fs.length:=by
 induction h with
 | nil=>rfl
 | cons _ _ ih=>rw [az,az,ih]
theorem BR.keep {H H':Hp} {us:List V} {fs:List (List Str)} (h:BR H us fs) (s:∀ b xs,H b=some (.tup xs)->H' b=some (.tup xs)):BR H' us fs:=by
 induction h with
 | nil=>exact .nil
 | cons a _ ih=>exact .cons (s _ _ a) ih
theorem BR.app {H:Hp} {us vs:List V} {fs gs:List (List Str)} (h:BR H us fs) (h':BR H vs gs):BR H (us ++ vs) (fs ++ gs):=by
 induction h with
 | nil=>exact h'
 | cons a _ ih=>exact .cons a ih
theorem BR.get {H:Hp} {us:List V} {fs:List (List Str)} (h:BR H us fs):∀ {i:Nat} {u:V},us[i]? = some u->∃ t f,u=.ref t/\fs[i]? = some f/\H t=some (.tup (f.map V.str)):=by
 induction h with
 | nil=>intro i u e; simp at e
 | cons a _ ih=>
  intro i u e;cases i with
  | zero=>simp at e; subst e; exact ⟨_,_,rfl,rfl,a⟩
  | succ i=>exact ih (by simpa using e)
theorem BR.mem {H:Hp} {us:List V} {fs:List (List Str)} (h:BR H us fs) {u:V} (hu:u ∈ us):∃ t f,u=.ref t/\f ∈ fs/\H t=some (.tup (f.map V.str)):=by
 obtain ⟨i,hi⟩:=cN hu;obtain ⟨t,f,e,ef,ht⟩:=h.get hi;exact ⟨t,f,e,ZE ef,ht⟩
theorem BR.perm {H:Hp} {us OV:List V} (p:OV.Perm us):∀ {fs:List (List Str)},BR H us fs->∃ Wd,Wd.Perm fs/\BR H OV Wd:=by
 induction p with
 | nil=>intro fs h; cases h; exact ⟨[],.refl _,.nil⟩
 | cons x p ih=>
  intro fs h;cases h with
  | cons a b=>
   obtain ⟨Wd,p',t'⟩:=ih b;exact ⟨_ :: Wd,p'.cons _,.cons a t'⟩
 | swap x y l=>
  intro fs h;cases h with
  | cons a b=>
   cases b with
   | cons c d=>exact ⟨_ :: _ :: _,.swap _ _ _,.cons c (.cons a d)⟩
 | trans p1 p2 Tj Ti=>
  intro fs h;obtain ⟨f1,q1,t1⟩:=Ti h;obtain ⟨f2,q2,t2⟩:=Tj t1;exact ⟨f2,q2.trans q1,t2⟩
theorem BR.kinds {H:Hp} {us:List V} {fs:List (List Str)} (h:BR H us fs) (ne:∀ f ∈ fs,f ≠ []):∀ v ∈ us,L9 H (fun _=>true) v:=by
 intro v hv;obtain ⟨t,f,rfl,hf,ht⟩:=h.mem hv;refine ⟨t,_,rfl,ht,by simpa using ne f hf,fun i y e=>?_⟩;rw [ZL] at e;cases z:f[i]? with
 | none=>rw [z] at e; cases e
 | some x=>rw [z] at e; exact ⟨x,(ZZ.inj e).symm⟩
def Gb:V->Nat->Bool
 | .int i,k=>decide ((k:Int)<=i)
 | _,_=>true
def Sk (sites:List Str) (x:V) (os:List (List Str)):Prop:=
 os.Nodup/\True/\∀ ss,ss ∈ os ↔ ss ≠ []/\ss.Sublist sites/\Gb x ss.length=true
theorem Sk.opn {sites:List Str} {x:V} {os:List (List Str)} (h:Sk sites x os) (nd:sites.Nodup) {ss:List Str} (hs:ss ∈ os):Opn sites ss:=by
 obtain ⟨h1,h2,_⟩:=(h.2.2 ss).mp hs;exact ⟨h1,h2.nodup nd,fun s hs=>h2.subset hs⟩
def OR (H:Hp) (c:Addr) (sites:List Str) (x:V) (d:PyData):Prop:=
 ∃ (m t2:V) (t1:Addr) (D3:List V) (Ap:List AY),H c=some (.tup [m,.ref t1,t2,x])/\H t1=some (.tup D3)/\AE H D3 (Ap.map Cm)/\Ap.map (·.1)=sites/\sites.Nodup/\sites.length<=10/\Lim x d
theorem Cc.sites {H:Hp} {c m:Addr} {n:Nat} {xs:List Str} {ws:List AJ} {Ap Ar:List AY} {x:V} {d:PyData} (h:Cc H c m n xs ws Ap Ar x d):OR H c (Ap.map (·.1)) x d:=by
 obtain ⟨t1,t2,D3,EX,a,b,e,f,g⟩:=h.ex;exact ⟨_,_,t1,D3,Ap,a,b,e,rfl,h.ok1.nd,by rw [ZA]; exact h.l1,h.lim⟩
def TY:Sp:=fun vs H Q _=>∃ (c:Addr) (sites:List Str) (x:V) (d:PyData),vs=[.ref c]/\OR H c sites x d /\
 ∀ (H':Hp) (D:Addr) (us:List V) (os:List (List Str)),Aq H H'->H D=none->H' D=some (.lst us)->BR H' us os->Sk sites x os->os.length<=1024->Q (.ref D) H'
def Rr (K:ZD):R2:=fun x y H Q=>∃ a b xs ys,x=.ref a/\y=.ref b/\Ay K H a xs/\Ay K H b ys/\xs.length + ys.length<=sizeLine /\
 (xs=[]->Q (.ref b) H)/\(xs ≠ []->ys=[]->Q (.ref a) H)/\(xs ≠ []->ys ≠ []->∀ p,H p=none->Q (.ref p) (upd H p (.tup (xs ++ ys))))
theorem Du (K:ZD) {X:Cx} (hK:X.K=K):EA X (binaryOp .Add) (Rr K):=by
 subst hK;intro pins s σ H x y v u Q I rx ry h;obtain ⟨a,b,xs,ys,rfl,rfl,ha,hb,hz,q0,q1,q2⟩:=h;cases rx
 cases ry
 obtain ⟨Av,r1,p1,_⟩:=I.tuple ha;obtain ⟨JR,r2,p2,_⟩:=I.tuple hb;by_cases hx:xs=[]
 ·obtain ⟨⟨cls,dd,data,sl⟩,ho,hc,n,hd⟩:=id p1;obtain ⟨⟨Xp,Ss,data2,TZ⟩,Sn,So,n2,hd2⟩:=id p2;simp only at hc hd So hd2;subst hc hd So hd2;exact concat_meets ⟨_,ho,rfl⟩ ⟨_,Sn,rfl⟩ noFill_tuple_add seq_tuple_add PySem.F.slot_tuple_add PySem.F.entry_tuple_add (PySem.F.args_tuple_add_2 _ _)
   (tuple_addW0 a b Av.toArray JR.toArray n n2 dd Ss sl TZ (by simp [r1.nil_iff.mpr hx])) ⟨ho,Sn,⟨.ref b,H,I,rfl,q0 hx⟩⟩
 ·refine HT.cat_tup p1 p2 (fun z=>hx (r1.nil_iff.mp z)) (fun z=>⟨.ref a,H,I,rfl,q1 hx (r2.nil_iff.mp z)⟩) (fun z=>?_) (by rw [<-r1.length,<-r2.length]; exact hz);refine ⟨.ref s.heap.objs.size,_,I.laid (t':=s.toks) (o:=.tup (xs ++ ys)) (fun b ob q=>ZC _ q) (ZJ _) ?_,rfl,q2 hx (fun w=>z (r2.nil_iff.mpr w)) _ (I.hok.fresh (ZJ _))⟩;exact ⟨by rw [ZH]; exact hz,_,r1.append r2,IsTup.new _ _,MP.new rfl rfl⟩
theorem Fy {X:Cx} (hc:X.calm=true):Bn X (.builtin "min") (fun xs H Q=>∃ (a:Addr) (ns:List Int),xs=[.ref a]/\H a=some (.lst (ns.map V.int))/\ns ≠ [] /\
  ∀ m,m ∈ ns->(∀ x ∈ ns,m<=x)->Q (.int m) H):=by
 intro pins s σ H xs us Q I r h;obtain ⟨a,ns,rfl,ha,hne,q⟩:=h;obtain ⟨u,rfl,ru⟩:=Cj r;cases ru
 obtain ⟨Av,rv,pl,hz⟩:=I.list (AZ.of ha);have il:Av.length=ns.length:=by rw [<-rv.length,ZA]
 have pos:0 < ns.length:=bE.mpr hne;refine G8 (bt:=fun i j=>decide (ns.getD i 0 < ns.getD j 0)) (I.ok.hd hc) pl.isList (by lia) (fun i j vi vj s' Q' E' g hi hj hQ=>?_) fun v h2 tk hv k2=>?_
 ·obtain ⟨x,t,e1,rfl⟩:=Il rv i vi hi;obtain ⟨y,u,e2,rfl⟩:=Il rv j vj hj;dsimp only at hQ;rw [ZP,ZP,e1,e2] at hQ;exact E8.int _ _ _ _ _ _ _ _ _ _ hQ
 ·obtain ⟨x,t,e1,rfl⟩:=Il rv _ v hv;obtain ⟨b1,b2⟩:=J5 (fun i j=>decide (ns.getD i 0 < ns.getD j 0)) (fun i=>ns.getD i 0) (fun i j h=>by have:=of_decide_eq_true h; lia) (fun i j h=>by have:=of_decide_eq_false h; lia) (Av.length - 1);refine ⟨.int x,H,I.kept k2,⟨t,rfl⟩,q x (ZE e1) fun y hy=>?_⟩;obtain ⟨j,hj,rfl⟩:=ab hy;have:=b2 j (by lia);have e2:ns.getD j 0=ns[j]:=by simp [hj]
  have e3:ns.getD (argBest (fun i j=>decide (ns.getD i 0 < ns.getD j 0)) (Av.length - 1)) 0=x:=by
   rw [ZP,e1]; rfl
  rw [e2,e3] at this;exact this
def Md (ws:List AJ) (ss:List Str) (y:Str) (d:Int):Prop:=(∃ s ∈ ss,Bl ws s y d)/\∀ s ∈ ss,∀ m,Bl ws s y m->d<=m
def Si (ws:List AJ) (ss:List Str) (rs:List AY) (ds:List Int):Prop:=ds.length=rs.length/\∀ (i:Nat) r d,rs[i]? = some r->ds[i]? = some d->Md ws ss r.1 d
def BW (rs:List AY) (ds:List Int):Int:=((rs.zip ds).map fun p=>p.1.2 * p.2).sum
def U3 (ws:List AJ) (Ap Ar:List AY) (ss:List Str) (t:Int):Prop:=∃ ds,Si ws ss Ar ds/\t=(ss.map (BI Ap)).sum + BW Ar ds
def DQ (H:Hp) (v:V) (xs:List Str) (ws:List AJ) (s:Str):Prop:=∃ (B:Addr) (nb:List (Str × V)),v=.ref B/\H B=some (.dK (sK nb))/\nb.map (·.1)=xs/\∀ y u,(y,u) ∈ nb->∃ n,u=.int n/\KI ws s y n
theorem DQ.same {H H':Hp} {v:V} {xs:List Str} {ws:List AJ} {s:Str} (h:DQ H v xs ws s) (sm:Aq H H'):DQ H' v xs ws s:=let ⟨B,nb,a,b,c⟩:=h; ⟨B,nb,a,sm _ _ b,c⟩
def F2:Sp:=fun vs H Q _=>∃ (c m:Addr) (n:Nat) (xs:List Str) (ws:List AJ) (Ap Ar:List AY) (x:V) (d:PyData),vs=[.ref c]/\Cc H c m n xs ws Ap Ar x d /\
 ∀ (H':Hp) (D:Addr) (nv:List (Str × V)),Aq H H'->H D=none->H' D=some (.dK (sK nv))->nv.map (·.1)=Ap.map (·.1)->(∀ s v,(s,v) ∈ nv->DQ H' v xs ws s)->Q (.ref D) H'
def Ra:Sp:=fun vs H Q _=>∃ (c:Addr) (sites:List Str) (x:V) (d:PyData),vs=[.ref c]/\OR H c sites x d /\
 ∀ mo:Int,0<=mo->(∀ k:Nat,k<=sites.length->((k:Int)<=mo ↔ Gb x k=true))->Q (.int mo) H
def HL (l:List Str) (mo:Int) (fs:List (List Str)):Prop:=fs.Nodup/\∀ ss,ss ∈ fs ↔ ss.Sublist l/\(ss.length:Int)<=mo
theorem HL.nil {mo:Int} (h:0<=mo):HL [] mo [[]]:=⟨by simp,fun ss=>by
 constructor
 ·intro z;rw [aa] at z;subst z;exact ⟨List.Sublist.refl _,by simpa using h⟩
 ·rintro ⟨z,_⟩;rw [dt.mp z];simp⟩
theorem HL.step {a:Str} {l:List Str} {mo:Int} {fs:List (List Str)} (ha:a ∉ l) (h:HL l mo fs):HL (l ++ [a]) mo (fs ++ (fs.filter fun f=>decide ((f.length:Int) < mo)).map (· ++ [a])):=by
 refine ⟨ba.mpr ⟨h.1,?_,?_⟩,fun ss=>?_⟩
 ·exact List.pairwise_map.mpr ((h.1.sublist bX).imp fun {x y} ne e=>ne (List.append_cancel_right e))
 ·rintro x hx y hy rfl;obtain ⟨g,hg,rfl⟩:=ZO.mp hy;exact ha (((h.2 _).mp hx).1.subset (by simp))
 ·rw [af,ZO,List.sublist_append_iff];constructor
  ·rintro (h1 | ⟨g,hg,rfl⟩)
   ·exact ⟨⟨ss,[],by simp,((h.2 _).mp h1).1,List.nil_sublist _⟩,((h.2 _).mp h1).2⟩
   ·obtain ⟨g1,g2⟩:=aU.mp hg;exact ⟨⟨g,[a],rfl,((h.2 _).mp g1).1,List.Sublist.refl _⟩,by have:=of_decide_eq_true g2; rw [ZH,b8]; lia⟩
  ·rintro ⟨⟨l1,l2,rfl,s1,s2⟩,le⟩;have:l2=[]\/l2=[a]:=by
    cases s2 with
    | cons _ s=>exact .inl (dt.mp s)
    | cons_cons _ s=>rw [dt.mp s]; exact .inr rfl
   rcases this with rfl | rfl
   ·rw [bV] at le ⊢;exact .inl ((h.2 _).mpr ⟨s1,le⟩)
   ·rw [ZH,b8] at le;exact .inr ⟨l1,aU.mpr ⟨(h.2 _).mpr ⟨s1,by lia⟩,decide_eq_true (by lia)⟩,rfl⟩
theorem Py {J:It} {xs:List V} {S:Hp->Prop} {g:TG} {tk tv:TE} {H:Hp} {σ0:St} {R:Addr->Hp->Prop} (ov:Sj J xs S) (ks:List Str) (hk:ks.length=xs.length) (nd:ks.Nodup) (I:Addr->Nat->St->Hp->List (Str × V)->Prop) (big:xs.length < sizeLine)
  (h0:∀ D,H D=none->I D 0 σ0 (upd H D (.dK (sK []))) [])
  (hs:∀ D i σ H' nv,H D=none->I D i σ H' nv->S H'/\H' D=some (.dK (sK nv))/\nv.map (·.1)=ks.take i)
  (turn:∀ D i σ H' nv x k (B:St->V->V->Hp->Prop),H D=none->xs[i]? = some x->ks[i]? = some k->I D i σ H' nv->(∀ AB v H6,H6 D=some (.dK (sK nv))->I D (i + 1) AB (upd H6 D (.dK (sK (nv ++ [(k,v)])))) (nv ++ [(k,v)])->B AB (.str k) v H6) ->
   g x σ H' fun AB H3=>tk AB H3 fun y H5=>tv AB H5 fun v H6=>B AB y v H6)
  (fin:∀ D σ H' nv,H D=none->I D xs.length σ H' nv->R D H') :
  ∀ D,H D=none->∃ W:Nat->Nat->St->Hp->Prop,(∃ m,W 0 m σ0 (upd H D (.dK []))) /\
   ∀ i m Aw H',W i m Aw H'->(J.stop i H'/\R D H')\/(J.go i H'/\∀ x H2,J.yld i H' x H2->g x Aw H2 fun AB H3=>JI AB H3 fun b H4=>
    if b=true then tk AB H4 (fun y H5=>tv AB H5 fun v H6=>∃ kvs k,y=kV k/\H6 D=some (.dK kvs)/\kvs.length < sizeLine/\∃ m',m' < m/\W (i + 1) m' AB (upd H6 D (.dK (BM kvs k v)))) else ∃ m',m' < m/\W (i + 1) m' AB H4):=by
 intro D hD;exists fun i m σ H'=>m=xs.length - i/\i<=xs.length/\∃ nv,I D i σ H' nv,⟨xs.length,rfl,ao _,[],h0 D hD⟩
 rintro i m σ H' ⟨rfl,hi,nv,p⟩;obtain ⟨s1,s2,s3⟩:=hs D i σ H' nv hD p;by_cases BD:i < xs.length
 ·refine .inr ⟨ov.go i H' s1 BD,fun x H2 y=>?_⟩;obtain ⟨rfl,ex⟩:=ov.yld i H' x H2 s1 y;have hki:i < ks.length:=by lia
  have ek:ks[i]? = some ks[i]:=Z9 hki;have nin:ks[i] ∉ nv.map (·.1):=by
   rw [s3];intro V1;obtain ⟨j,hj,e⟩:=ab V1;rw [ah] at hj;rw [cn] at e;have:=Hy nd (Z9 (show j < ks.length by lia)) (by rw [ek,e]);lia
  have nl:nv.length=i:=by
   have:=congrArg b9 s3;rw [ZA,ah] at this;lia
  have e:∀ (F:St->V->V->Hp->Prop) (G:St->Hp->Prop),(fun (AB:St) (H3:Hp)=>JI AB H3 fun b H4=>if b=true then tk AB H4 (fun y H5=>tv AB H5 fun v H6=>F AB y v H6) else G AB H4)=fun AB H3=>tk AB H3 (fun y H5=>tv AB H5 fun v H6=>F AB y v H6):=by
   intro F G;funext AB H3;show (if true=true then tk AB H3 (fun y H5=>tv AB H5 fun v H6=>F AB y v H6) else G AB H3)=_
   rw [if_pos rfl]
  rw [e (fun AB y v H6=>∃ kvs k,y=kV k/\H6 D=some (.dK kvs)/\kvs.length < sizeLine/\∃ m',m' < xs.length - i/\(m'=xs.length - (i + 1)/\i + 1<=xs.length/\∃ DZ,I D (i + 1) AB (upd H6 D (.dK (BM kvs k v))) DZ)) (fun AB H4=>∃ m',m' < xs.length - i/\(m'=xs.length - (i + 1)/\i + 1<=xs.length/\∃ DZ,I D (i + 1) AB H4 DZ))];refine turn D i σ H2 nv x ks[i] _ hD ex ek p fun AB v H6 d6 p6=>?_
  exact ⟨_,Sum.inr ks[i],rfl,d6,by rw [CK]; lia,xs.length - (i + 1),by lia,rfl,BD,nv ++ [(ks[i],v)],by rw [DI nin]; exact p6⟩
 ·have e:i=xs.length:=by lia
  subst e;exact .inl ⟨ov.stop H' s1,fin D σ H' nv hD p⟩
theorem LH {α β:Type} {b:β}:∀ {as:List α} {bs:List β} {a:α},as[bs.length]? = some a->as.zip (bs ++ [b])=as.zip bs ++ [(a,b)]
 | [],bs,a,h=>by simp at h
 | x :: as,[],a,h=>by simp at h; subst h; simp
 | x :: as,y :: bs,a,h=>by
  have:=LH (as:=as) (bs:=bs) (b:=b) (a:=a) (by simpa using h);simp [this]
theorem Mc {n:Nat} {g:TG} {te:TE} {H:Hp} {σ0:St} {R:Addr->Hp->Prop} (I:Addr->Nat->St->Hp->List V->Prop) (big:n < sizeLine)
  (h0:∀ D,H D=none->I D 0 σ0 (upd H D (.lst [])) [])
  (hs:∀ D i σ H' acc,H D=none->I D i σ H' acc->H' D=some (.lst acc)/\acc.length=i)
  (turn:∀ D i σ H' acc (B:St->V->Hp->Prop),H D=none->i < n->I D i σ H' acc->(∀ AB v H5,H5 D=some (.lst acc)->I D (i + 1) AB (upd H5 D (.lst (acc ++ [v]))) (acc ++ [v])->B AB v H5)->g (.int (0 + (i:Int))) σ H' fun AB H3=>te AB H3 (B AB))
  (fin:∀ D σ H' acc,H D=none->I D n σ H' acc->R D H') :
  ∀ D,H D=none->∃ W:Nat->Nat->St->Hp->Prop,(∃ m,W 0 m σ0 (upd H D (.lst []))) /\
   ∀ i m Aw H',W i m Aw H'->((Sx 0 n).stop i H'/\R D H')\/((Sx 0 n).go i H'/\∀ x H2,(Sx 0 n).yld i H' x H2->g x Aw H2 fun AB H3=>JI AB H3 fun b H4=>
    if b=true then te AB H4 (fun v H5=>∃ acc,H5 D=some (.lst acc)/\acc.length < sizeLine/\∃ m',m' < m/\W (i + 1) m' AB (upd H5 D (.lst (acc ++ [v])))) else ∃ m',m' < m/\W (i + 1) m' AB H4):=by
 intro D hD;exists fun i m σ H'=>m=n - i/\i<=n/\∃ acc,I D i σ H' acc,⟨n,rfl,ao _,[],h0 D hD⟩
 rintro i m σ H' ⟨rfl,hi,acc,p⟩;obtain ⟨s2,s3⟩:=hs D i σ H' acc hD p;by_cases BD:i < n
 ·refine .inr ⟨BD,fun x H2 ⟨e1,e2⟩=>?_⟩;subst e1 e2;have e:∀ (F:St->V->Hp->Prop) (G:St->Hp->Prop),(fun (AB:St) (H3:Hp)=>JI AB H3 fun b H4=>if b=true then te AB H4 (F AB) else G AB H4)=fun AB H3=>te AB H3 (F AB):=by
   intro F G;funext AB H3;show (if true=true then te AB H3 (F AB) else G AB H3)=_
   rw [if_pos rfl]
  rw [e (fun AB v H5=>∃ acc,H5 D=some (.lst acc)/\acc.length < sizeLine/\∃ m',m' < n - i/\(m'=n - (i + 1)/\i + 1<=n/\∃ ES,I D (i + 1) AB (upd H5 D (.lst (acc ++ [v]))) ES)) (fun AB H4=>∃ m',m' < n - i/\(m'=n - (i + 1)/\i + 1<=n/\∃ ES,I D (i + 1) AB H4 ES))];refine turn D i σ H2 acc _ hD BD p fun AB v H5 d5 p5=>?_
  exact ⟨acc,d5,by lia,n - (i + 1),by lia,rfl,BD,_,p5⟩
 ·have e:i=n:=by lia
  subst e;exact .inl ⟨ZJ _,fin D σ H' acc hD p⟩
theorem Kj {z:Str} (l u:Option Int) (h:TL z):TL (Txt.slice z l u):=by
 unfold Txt.slice;split
 ·exact h
 ·intro c hc;have K0:c ∈ (Builtin.Str.strSliceIndices l u 1 z.length).filterMap (z.cps[·]?):=by simpa using hc
  obtain ⟨i,_,e⟩:=cX.mp K0;exact h c (by rw [dZ]; exact dU e)
theorem Rf {z:Str} {a:Int} (h0:0<=a) (h1:a<=z.length):(Txt.slice z none (some a)).length<=a.toNat:=by
 have e:(Builtin.Str.strSliceIndices none (some a) 1 z.length).length=a.toNat:=by
  unfold Builtin.Str.strSliceIndices sliceRange;simp only [show (1:Int) > 0 by decide,if_true,ZA,bo];(split <;> (try split) <;> (try split) <;> (try simp only [et]) <;> lia)
 unfold Txt.slice;split
 ·rename_i q
  rw [e] at q;have:a.toNat=z.length:=by simpa using q
  lia
 ·show (fV _ (Builtin.Str.strSliceIndices none (some a) 1 z.length)).toArray.size<=_
  rw [ZU,<-e];exact dP _ _
theorem Nk {z:Str} {a:Int} (h0:0<=a) (h1:a<=z.length):(Txt.slice z (some a) none).length<=z.length - a.toNat:=by
 have e:(Builtin.Str.strSliceIndices (some a) none 1 z.length).length=z.length - a.toNat:=by
  unfold Builtin.Str.strSliceIndices sliceRange;simp only [show (1:Int) > 0 by decide,if_true,ZA,bo];(split <;> (try split) <;> (try split) <;> (try simp only [et]) <;> lia)
 unfold Txt.slice;split
 ·rename_i q
  rw [e] at q;have:z.length - a.toNat=z.length:=by simpa using q
  lia
 ·show (fV _ (Builtin.Str.strSliceIndices (some a) none 1 z.length)).toArray.size<=_
  rw [ZU,<-e];exact dP _ _
theorem Mo {X:Cx}:EA X (binaryOp .FloorDiv) (rI (fun _ j=>0 < j/\j < 2 ^ 600) fun i j=>.int (i / j)):=opI fun i j _ _ _ _ _ hc q=>by
 have h1:(0:Int) < j:=hc.1;have h2:j < 2 ^ 600:=hc.2;refine floordiv_int (by lia) (by rw [Int.fdiv_eq_ediv_of_nonneg i (by lia)]; exact q) (.inl (PyProof.noPylong_of_log2 ?_));have hn:j.natAbs < 2 ^ 600:=by lia
 have:j.natAbs.log2 < 600:=(Nat.log2_lt (by lia)).mpr hn;lia
theorem R6 {X:Cx}:EA X (binaryOp .Mult) (fun x y H Q=>∃ z n,x=.str z/\y=.int n/\(n=0\/n=1)/\Q (.str (if n=1 then z else Str.empty)) H):=by
 intro pins s σ H x y v u Q I rx ry h;obtain ⟨z,n,rfl,rfl,hn,q⟩:=h;obtain ⟨t,rfl⟩:=rx;obtain ⟨t',rfl⟩:=ry;rcases hn with rfl | rfl
 ·exact PySem.P.mul_str_none (by decide) (by decide) ⟨.str Str.empty,H,I.tok _,⟨_,rfl⟩,q⟩
 ·refine PySem.P.mul_str (by decide) (fun _ z=>by simp at z) (fun _ z=>by simp at z) ?_;rw [if_neg (by decide),if_pos (by simp)];exact ⟨.str z,H,I,⟨_,rfl⟩,q⟩
theorem Eg (K:ZD) {X:Cx} (h:X.K=K):SlR X (SI K):=by subst h; exact UN
theorem Fx {X:Cx} (hu:X.A.units + 64 < cLine):EA X (compareOp .NotIn) (fun x y H Q=>∃ (t p:Addr) (ss:List Str) (us:List V) (fs:List (List Str)),x=.ref t/\y=.ref p/\H t=some (.tup (ss.map V.str))/\H p=some (.lst us)/\BR H us fs/\Q (.bl (!(decide (ss ∈ fs)))) H):=by
 intro pins s σ H x y v u Q I rx ry h;obtain ⟨t,p,ss,us,fs,rfl,rfl,ht,hp,tU,q⟩:=h;cases rx
 cases ry
 obtain ⟨Av,r,pl,hz⟩:=I.list (AZ.of hp);have tx:=TR I ht;have ats:∀ {us:List V} {Av:List Value} {fs:List (List Str)},AF us Av->BR H us fs->(∀ w ∈ Av,∃ f,f ∈ fs/\JW s.heap w f)/\∀ f ∈ fs,∃ w ∈ Av,JW s.heap w f:=by
  intro us;induction us with
  | nil=>intro Av fs r tU; cases r; cases tU; exact ⟨(fun w hw=>nomatch hw),fun f hf=>nomatch hf⟩
  | cons v us ih=>
   intro Av fs r tU;cases r with
   | cons r1 r2=>
    cases tU with
    | cons a b=>
     cases r1
     obtain ⟨i1,i2⟩:=ih r2 b;have t1:=TR I a;refine ⟨fun w hw=>?_,fun f hf=>?_⟩
     ·rcases ZF.mp hw with rfl | hw
      ·exact ⟨_,ae,t1⟩
      ·obtain ⟨f,h1,h2⟩:=i1 w hw;exact ⟨f,ZW _ h1,h2⟩
     ·rcases ZF.mp hf with rfl | hf
      ·exact ⟨_,ae,t1⟩
      ·obtain ⟨w,h1,h2⟩:=i2 f hf;exact ⟨w,ZW _ h1,h2⟩
 have one:∀ {w:Value} {f g:List Str},JW s.heap w f->JW s.heap w g->f=g:=fun {w f g} h1 h2=>by
  obtain ⟨a,D3,e1,⟨o,ho,hc,n,hd⟩,r1⟩:=h1;obtain ⟨b,EX,e2,⟨o',Im,K0,n',Lz⟩,r2⟩:=h2;rw [e1] at e2;cases e2
  rw [ho] at Im;cases Im
  rw [hd] at Lz;injection Lz with e3 e4;have e5:=congrArg cA e3;simp only at e5;subst e5;exact JY r1 r2
 classical
 obtain ⟨a1,a2⟩:=ats r tU;refine SeqAt.notIn_listAt (fun w=>decide (JW s.heap w ss)) pl.isList (fun w hw=>?_) ⟨.bl _,H,I,rfl,?_⟩
 ·obtain ⟨f,hf,tf⟩:=a1 w (by simpa using hw);have:=Tu (A:=X.A.in1) (s:=s) tf tx (by rw [PySem.Around.in1_units]; lia);have e:decide (f=ss)=decide (JW s.heap w ss):=by
   rw [aZ];simp only [decide_eq_true_eq];exact ⟨fun e=>e ▸ tf,fun h=>one tf h⟩
  rw [<-e];exact this
 ·have e:Av.toArray.any (fun w=>decide (JW s.heap w ss))=decide (ss ∈ fs):=by
   rw [aZ];simp only [List.any_toArray,bQ,decide_eq_true_eq];constructor
   ·rintro ⟨w,hw,h⟩;obtain ⟨f,hf,tf⟩:=a1 w hw;rw [one h tf];exact hf
   ·exact fun h=>a2 ss h
  rw [e];exact q
section
variable {prog:Program} {w:World} {A:Around} {E:Value->Shared->Prop} {s:Shared}
theorem NO {l:Addr} {vs:List Value} {Q:List Value->Shared->Prop} (hl:s.heap.IsTuple l vs.toArray) (few:vs.toArray.size<=sizeLine)
  (h:∀ h1:Heap,s.heap.objs.size<=h1.objs.size->(∀ b o,s.heap.get? b=some o->h1.get? b=some o)->Q vs { s with heap:=h1 }):wpAny (model prog w) A (collect (.ref l)) Q E s:=by
 obtain ⟨o,ho,hc,n,hd⟩:=hl;obtain ⟨g,eg⟩:∃ g,g=(s.heap.push { cls:=.type "list",data:=.seq ([]:List Value).toArray }).update s.heap.objs.size (Obj.mapSeq (· ++ vs.toArray)):=⟨_,rfl⟩
 have gS:=aE (Obj.mapSeq (· ++ vs.toArray)) (ZM s.heap (o:={ cls:=.type "list",data:=.seq ([]:List Value).toArray }) rfl) rfl;rw [<-eg] at gS;have last:=h g (by rw [eg,fj,aA]; exact ar _) fun b o' hb=>by
  rw [eg];exact (ax _ _ (aW (ZK hb))).trans (ZC _ hb)
 unfold collect;refine wpAny_bind (wpAny_runValue (codeAny_builtin PySem.F.entry_proto_collect ?_));rw [Around.under_plainId PySem.F.plain_proto_collect _];refine wpAny_bind (wpAny_newObj_type (wpAny_pure ⟨plainId_quiet PySem.F.plain_list_iadd _,codeAny_builtin PySem.F.entry_list_iadd ?_⟩));rw [Around.under_plainId PySem.F.plain_list_iadd _];have fin:∀ s':Shared,s' = { s with heap:=g }->wpAny (model prog w) A (match Value.ref s.heap.objs.size with
   | Value.ref a=>do
    match (<- load a).data with
     | Data.seq xs _=>pure xs.toList
     | _=>unsupported "internal:collect"
   | _=>unsupported "internal:collect") Q E s':=by
  rintro s' rfl;refine wpAny_bind (wpAny_load gS (wpAny_pure ?_));simpa using last
 refine wpAny_mono (wpAny_extend_seq (hsz:=few) (A:=A) (R:=fun r s'=>r=.ok (.ret (.ref s.heap.objs.size))/\s' = { s with heap:=g }) (s:={ s with heap:=s.heap.push { cls:=.type "list",data:=.seq ([]:List Value).toArray } }) _ l _ 0 (.inr rfl) (ZM _ rfl) (ZC _ ho) hc hd ⟨rfl,by rw [eg]⟩) (fun r s' q=>?_) (fun e s' q=>absurd q.1 (by simp));cases r with
 | done f=>
  obtain ⟨e,q⟩:=q;cases e
  exact fin s' q
 | again c=>exact ⟨q.1,codeAny_mono q.2 fun r UT z=>by obtain ⟨rfl,z⟩:=z; exact fin UT z⟩
theorem LY {l:Addr} {vs:List Value} {ss:List Str} {Q:Value->Shared->Prop} (hl:s.heap.IsTuple l vs.toArray) (hS:StrsAre vs ss) (Xe:vs.length < 64)
  (h:∀ (h':Heap) (a:Addr) (out:Array Value) (DS:List Str) (e:Nat),s.heap.objs.size<=a->(∀ b o,s.heap.get? b=some o->h'.get? b=some o)->h'.get? a=some (seqObj "list" out e)->StrsAre out.toList DS->DS.Perm ss->sortedS DS=true->Q (.ref a) { s with heap:=h' }) :
  wpAny (model prog w) A (call (.builtin "sorted") [.ref l]) Q E s:=by
 have few:vs.toArray.size<=sizeLine:=by rw [ZU,sizeLine_eq]; lia
 refine Calls.call_function_entry kind_sorted plain_sorted entry_sorted (args_sorted1 _) ?_;unfold Builtin.«sorted»;refine wpAny_bind (m:=checkCount "sorted" 1 1 _) (wpAny_pure (wpAny_bind (NO hl few fun h1 sz k1=>?_)));refine wpAny_bind (wpAny_newList ?_ (by simpa using few));have lies:(h1.push (seqObj "list" vs.toArray 0)).get? h1.objs.size=some (seqObj "list" vs.toArray 0):=ZM _ rfl;refine wpAny_bind (wpAny_holding (wpAny_call_entry slot_list_sort ⟨_,lies,rfl⟩ entry_list_sort (list_sort_treeK (s:={ s with heap:=h1.push (seqObj "list" vs.toArray 0) }) strKind_oneLt lies hS.keysOf (fun Yv Yu rest e=>keyKind_strs (by rw [<-e]; exact hS)) Xe fun AG hp hs=>⟨_,rfl,wpAny_pure ⟨_,rfl,?_⟩⟩) (args_list_sort _)));obtain ⟨DS,q1,q2,q3⟩:=sorted_out_str hS hp hs;obtain ⟨e,he⟩:=sortedHeap_at (out:=(arrOf AG).map (·.2)) lies;refine h _ h1.objs.size _ DS e sz (fun b o z=>?_) he q1 q2 q3;have hb:=k1 b o z;rw [sortedHeap_old (ZQ (ZK hb)) (by rw [aA]; exact au (ZK hb))];exact ZC _ hb
end
theorem HW {X:Cx}:Bn X (.builtin "sorted") (fun xs H Q=>∃ (t:Addr) (x y:Str),xs=[.ref t]/\H t=some (.tup [.str x,.str y])/\∀ l,H l=none->Q (.ref l) (upd H l (.lst [.str (BX x y),.str (BY x y)]))):=by
 intro pins s σ H xs us Q I r h;obtain ⟨t,x,y,rfl,ht,q⟩:=h;obtain ⟨u,rfl,ru⟩:=Cj r;cases ru
 obtain ⟨Av,rv,pl,hz⟩:=I.tuple (Ay.of (show H t=some (.tup ([x,y].map V.str)) from ht));have hl:Av.length=2:=by rw [<-rv.length]; rfl
 refine LY pl (Oj rv) (by lia) fun h' a out DS e ha kp he h1 h2 h3=>?_
 have e2:DS=[BX x y,BY x y]:=by
  obtain ⟨x',y',rfl⟩:∃ x' y',DS=[x',y']:=by
   have:=h2.length_eq;match DS,this with
   | [a,b],_=>exact ⟨a,b,rfl⟩
  obtain ⟨e1,e2⟩:=Ng h2 h3;rw [e1,e2]
 subst e2;refine ⟨.ref a,_,I.laid (o:=.lst [.str (BX x y),.str (BY x y)]) (t':=s.toks) kp ha ⟨by show 2<=sizeLine; decide,out.toList,e,Ij h1,by simpa using he⟩,rfl,q a (I.hok.fresh ha)⟩
def QX (K:ZD):Sp:=fun vs H Q _=>∃ (a:Addr) (ns:List Int) (k:Int),vs=[.ref a,.int k]/\TH K H a (ns.map V.int)/\0<=k/\∀ (p:Addr) (x y z:Int),H p=none->Q (.ref p) (upd H p (.lst (A1 x y z)))
def CO:Sp:=fun vs H Q _=>∃ (p:Addr) (m:Int),vs=[.ref p,.int m]/\A6 H p/\0 < m/\m < 2 ^ 600/\∀ (d a b c:Int),0<=d->d < m->Q (.int d) (upd H p (.lst (A1 a b c)))
def LX:Sp:=fun vs H Q _=>∃ (p:Addr) (n:Nat),vs=[.ref p,.int n]/\A6 H p/\n<=26 /\
 ∀ (H':Hp) (D:Addr) (xs:List Str),A6 H' p->A9 p H H'->H D=none->H' D=some (.lst (xs.map V.str))->xs.length=n->xs.Nodup->(∀ x ∈ xs,Bm x=true)->Q (.ref D) H'
def KR:Sp:=fun vs H Q _=>∃ (p e:Addr) (xs:List Str) (most:Int),vs=[.ref p,.ref e,.int most]/\A6 H p/\H e=some (.lst (xs.map V.str))/\e ≠ p/\1<=xs.length/\xs.length<=30/\1<=most/\most<=30 /\
 ∀ (H':Hp) (D:Addr) (ys zs:List Str),A6 H' p->A9 p H H'->H D=none->H' D=some (.lst (ys.map V.str))->(ys ++ zs).Perm xs->1<=ys.length->(ys.length:Int)<=most->Q (.ref D) H'
theorem Vh (K:ZD) {X:Cx} (hK:X.K=K) {o e:Expr} {es:List Expr} {to:TE} {t:TA} {name:Str} {apos DO:Pos} {T id:String} {r:V->List V->Hp->VK->Prop} (pa:PlainAttrs T) (slot:Slot T name id) (hty:typeOf (.builtin id)=pure (.type "method_descriptor")) (hm:MtR X id r) (ho:PE X o to) (ha:PA X (e :: es) t)
  (hbase:attributeBase o name X.env (eval o X.env)=eval o X.env:=by rfl)
  (hfew:((backTo DO (starEach (e :: es) X.env)).all (fun x=>!x.1) && (backToKw DO (keywordEach [] X.env)).all (fun x=>x.1.isSome)
   && decide ((e :: es).length + ([]:List Keyword).length + (if ([]:List Keyword).isEmpty then 0 else 1) < 30))=true:=by rfl)
  (hline:(apos.endLine == DO.line)=true:=by rfl) (hs:starEach (e :: es) X.env=(false,eval e X.env) :: starEach es X.env:=by rfl) (hplain:(backTo DO (starEach es X.env)).any (·.1)=false:=by rfl) :
  PE X (.Call (.Attribute o name apos) (e :: es) [] DO) (tBM K T r to t):=by subst hK; exact Ht pa slot hty hm ho ha hbase hfew hline hs hplain
theorem Dy.lens {xs:List Str} {ws EV:List AJ} (h:Dy xs ws) (hl:EV.length=ws.length) (he:∀ (i:Nat) u u',ws[i]? = some u->EV[i]? = some u'->u'.1=u.1/\u'.2.1=u.2.1/\1<=u'.2.2):Dy xs EV:=by
 have at':∀ u' ∈ EV,∃ (i:Nat) (u:AJ),ws[i]? = some u/\EV[i]? = some u'/\u'.1=u.1/\u'.2.1=u.2.1/\1<=u'.2.2:=fun u' hu=>by
  obtain ⟨i,hi⟩:=cN hu;have MX:=(ZN.mp hi).1;have e:ws[i]? = some (ws[i]'(by lia)):=Z9 _;exact ⟨i,_,e,hi,he i _ _ e hi⟩
 refine ⟨fun u' hu=>?_,?_,fun j h1 h2=>?_⟩
 ·obtain ⟨i,u,e1,e2,a,b,c⟩:=at' u' hu;obtain ⟨z1,z2,z3,_⟩:=h.1 u (ZE e1);rw [a,b];exact ⟨z1,z2,z3,c⟩
 ·refine bC.mpr fun i j hi hj hij al=>?_
  have e1:ws[i]? = some (ws[i]'(by lia)):=Z9 _;have e2:ws[j]? = some (ws[j]'(by lia)):=Z9 _;obtain ⟨a1,b1,_⟩:=he i _ _ e1 (Z9 hi);obtain ⟨a2,b2,_⟩:=he j _ _ e2 (Z9 hj);refine bC.mp h.2.1 i j (by lia) (by lia) hij ?_;unfold JA at al ⊢;rw [a1,b1,a2,b2] at al;exact al
 ·obtain ⟨u,hu,i,hij,e1,e2⟩:=h.2.2 j h1 h2;obtain ⟨q,hq⟩:=cN hu;have hq':=(ZN.mp hq).1;have e:EV[q]? = some (EV[q]'(by lia)):=Z9 _;obtain ⟨a,b,_⟩:=he q _ _ hq e;exact ⟨_,ZE e,i,hij,by rw [a]; exact e1,by rw [b]; exact e2⟩
theorem PX (a b:Str):BX a b=BX b a:=by
 unfold BX;split
 ·rename_i h
  rw [if_neg (fun z=>cu h z)]
 ·rename_i h
  split
  ·rfl
  ·rename_i h'
   exact Dp h h'
theorem PZ (a b:Str):BY a b=BY b a:=by
 unfold BY;split
 ·rename_i h
  rw [if_neg (fun z=>cu h z)]
 ·rename_i h
  split
  ·rfl
  ·rename_i h'
   exact (Dp h h').symm
def Mm (q:Str × Str):AJ:=(q.2,q.1,1)
def DV (q:Str × Str):List Str:=[q.1,q.2]
def Ol:Sp:=fun vs H Q _=>∃ (p e:Addr) (xs:List Str) (kd:Int),vs=[.ref p,.ref e,.int kd]/\A6 H p/\H e=some (.lst (xs.map V.str))/\e ≠ p/\xs.Nodup/\(∀ x ∈ xs,Bm x=true)/\1<=xs.length/\xs.length<=26 /\
 ∀ (H':Hp) (T:Addr) (us:List V) (ws Gu:List AJ),A6 H' p->A9 p H H'->H' T=some (.tup us)->AE H' us (ws.map Ee)->ws.Perm (Gu.map Ep)->Dy xs Gu->(∀ u ∈ Gu,u.2.2<=9)->Gu.length<=30->Q (.ref T) H'
theorem Dw (K:ZD) {X:Cx} (h:X.K=K):Bn X (.type "tuple") (fun xs H Q=>∃ p ys,xs=[.ref p]/\((AZ K H p ys/\∀ l,H l=none->Q (.ref l) (upd H l (.tup ys)))\/(Ay K H p ys/\Q (.ref p) H))):=by subst h; exact B5
end L2
namespace L2
open PySem PySem.Spec PySem.W PyProof.Rows
theorem Dx (K:ZD) {X:Cx} (h:X.K=K):Bn X (.builtin "sorted") (fun xs H Q=>∃ (a:Addr) (vs:List V) (rs:List AY),xs=[.ref a]/\AZ K H a vs/\AE H vs (rs.map Cm) /\
  ∀ (l:Addr) (DR:List V) (Np:List AY),H l=none->AE H DR (Np.map Cm)->Np.Perm rs->Q (.ref l) (upd H l (.lst DR))):=by subst h; exact Gj
theorem F9 (K:ZD) {X:Cx} (h:X.K=K):Bn X (.builtin "sorted") (fun xs H Q=>∃ (a:Addr) (vs:List V) (ws:List AJ),xs=[.ref a]/\AZ K H a vs/\AE H vs (ws.map Ee) /\
  ∀ (l:Addr) (DR:List V) (EV:List AJ),H l=none->AE H DR (EV.map Ee)->EV.Perm ws->Q (.ref l) (upd H l (.lst DR))):=by subst h; exact Gi
theorem FA (K:ZD) {X:Cx} (h:X.K=K):Bn X (.builtin "sorted") (fun xs H Q=>∃ (a:Addr) (vs:List V) (kd:Nat->Bool),xs=[.ref a]/\AZ K H a vs/\(∀ v ∈ vs,L9 H kd v) /\
  ∀ (l:Addr) (DR:List V),H l=none->DR.Perm vs->Q (.ref l) (upd H l (.lst DR))):=by subst h; exact Cv
end L2
namespace L2
open PySem PySem.Spec PyProof.Rows
def Ey (l:List Str):Prop:=l.Pairwise fun a b=>a.cps.toList < b.cps.toList
theorem Ey.nodup {l:List Str} (h:Ey l):l.Nodup:=List.Pairwise.imp (fun {a b} z e=>by subst e; exact GH _ z) h
theorem Ey.pw {l:List Str} (h:Ey l):l.Pairwise fun a b=>¬ b.cps.toList < a.cps.toList:=List.Pairwise.imp (fun {a b} z=>cu z) h
theorem Kq {l:List Str} (h:l.Pairwise fun a b=>¬ b.cps.toList < a.cps.toList) (nd:l.Nodup):Ey l:=by
 induction l with
 | nil=>exact .nil
 | cons x l ih=>
  rw [bJ] at h;rw [aM] at nd;refine bJ.mpr ⟨fun y hy=>?_,ih h.2 nd.2⟩;by_cases z:x.cps.toList < y.cps.toList
  ·exact z
  ·exact absurd (Dp (h.1 y hy) z) (fun e=>nd.1 (e ▸ hy))
theorem Eo {ss DS:List Str} (nd:DS.Nodup) (mem:∀ k,k ∈ DS ↔ k ∈ ss) (srt:sortedS DS=true):DS=ss ↔ Ey ss:=
 ⟨fun e=>e ▸ Kq (EZ srt) nd,fun h=>Ki (EZ srt) h.pw (Hs nd h.nodup mem)⟩
def tyD:PyData->String
 | .none=>"NoneType"
 | .bool _=>"bool"
 | .int _=>"int"
 | .str _=>"str"
 | .list _=>"list"
 | .tuple _=>"tuple"
 | .dict _=>"dict"
theorem FC.ty {K:ZD} {H:Hp} {v:V} {d:PyData} (h:FC H v d):D5 K H v (.type (tyD d)):=by
 cases h with
 | non=>exact .non
 | bl b=>exact .bl b
 | int i=>exact .int i
 | str x=>exact .str x
 | tup e _=>exact .tup e
 | lst e _=>exact .lst e
theorem FC.notStr {K:ZD} {H:Hp} {v:V} {d:PyData} (h:FC H v d) (n:∀ s,d ≠ .str s):He K H v:=by
 exists _,h.ty;cases d with
 | str s=>exact absurd rfl (n s)
 | _=>rfl
theorem D5.same {K:ZD} {H H':Hp} {x:V} {t:Value} (h:D5 K H x t) (s:Aq H H'):D5 K H' x t:=by
 cases h with
 | non=>exact .non
 | bl x=>exact .bl x
 | int i=>exact .int i
 | str x=>exact .str x
 | flt x=>exact .flt x
 | lst e=>exact .lst (s _ _ e)
 | frz e=>exact .frz (s _ _ e)
 | tup e=>exact .tup (s _ _ e)
 | dK e=>exact .dK (s _ _ e)
 | dT e=>exact .dT (s _ _ e)
 | ins e c h1 h2 h3 h4=>exact .ins (s _ _ e) c h1 h2 h3 h4
def MQ (K:ZD) (H:Hp) (v:V):Prop:=∃ ty,D5 K H v ty/\bL K ty (.type "tuple")=some false
theorem MF:∀ (ss:List Str) (ds:List PyData),PyData.eqvAll (ss.map PyData.str) ds=true ↔ ds=ss.map PyData.str
 | [],[]=>by simp [PyData.eqvAll]
 | [],d :: ds=>by simp [PyData.eqvAll]
 | x :: ss,[]=>by simp [PyData.eqvAll]
 | x :: ss,d :: ds=>by
  rw [ZS,PyData.eqvAll,aB,MF ss ds];constructor
  ·rintro ⟨h,rfl⟩;cases d with
   | str y=>
    rw [PyData.eqv] at h;rw [eq_of_beq h]
   | _=>rw [PyData.eqv] at h; cases h
  ·intro e;injection e with e1 e2;subst e1;refine ⟨?_,e2⟩;rw [PyData.eqv];simp
theorem MG (ss:List Str) (ds:List PyData):PyData.eqv (.list (ss.map PyData.str)) (.list ds)=true ↔ ds=ss.map PyData.str:=by
 rw [PyData.eqv]; exact MF ss ds
theorem AE.len {H:Hp}:∀ {xs:List V} {ds:List PyData},AE H xs ds->xs.length=ds.length
 | _,_,.nil=>rfl
 | _,_,.cons _ r=>congrArg (· + 1) r.len
theorem AE.at {H:Hp}:∀ {xs:List V} {ds:List PyData},AE H xs ds->∀ {i:Nat} {v:V},xs[i]? = some v->∃ d,ds[i]? = some d/\FC H v d
 | _,_,.nil,i,v,e=>by simp at e
 | _,_,.cons h r,0,v,e=>by
  simp only [aJ,ZZ.injEq] at e;subst e;exact ⟨_,rfl,h⟩
 | _,_,.cons h r,i + 1,v,e=>by
  simp only [bM] at e;obtain ⟨d,e1,e2⟩:=r.at e;exact ⟨d,by simpa using e1,e2⟩
theorem AE.txt {H:Hp}:∀ {xs:List V} {ss:List Str},AE H xs (ss.map PyData.str)->xs=ss.map V.str
 | xs,[],h=>by cases h; rfl
 | xs,x :: ss,h=>by
  cases h with
  | cons h1 h2=>
   cases h1
   rw [h2.txt];rfl
def Hz:PyData->Bool
 | .str s=>Bm s
 | _=>false
theorem G7:∀ {ds:List PyData},(ds.map Hz).all id=true->∃ ss:List Str,ds=ss.map PyData.str/\∀ s ∈ ss,Bm s=true
 | [],_=>⟨[],rfl,fun s hs=>nomatch hs⟩
 | d :: ds,h=>by
  rw [ZS,cV,aB] at h;obtain ⟨ss,rfl,hn⟩:=G7 h.2;cases d with
  | str x=>exact ⟨x :: ss,rfl,fun s hs=>(ZF.mp hs).elim (fun e=>e ▸ h.1) (hn s)⟩
  | _=>exact absurd (show false=true from h.1) (by decide)
theorem KD {ss:List Str} (h:∀ s ∈ ss,Bm s=true):((ss.map PyData.str).map Hz).all id=true:=by
 rw [aL,bu,aG];exact fun s hs=>h s hs
theorem Ib {ss DS:List Str} (h:ss.map PyData.str=DS.map PyData.str):ss=DS:=by
 induction ss generalizing DS with
 | nil=>cases DS with
  | nil=>rfl
  | cons _ _=>cases h
 | cons x ss ih=>cases DS with
  | nil=>cases h
  | cons y DS=>
   injection h with h1 h2;injection h1 with h1;rw [h1,ih h2]
def LU (K:ZD):Sp:=fun vs H Q _=>∃ (t:Addr) (xs:List V) (ds:List PyData),vs=[.ref t]/\(H t=some (.lst xs)\/H t=some (.tup xs))/\AE H xs ds/\(∀ s,PyData.str s ∈ ds->s.length<=1000)/\xs.length<=60 /\
 ∀ (b:Bool) (H':Hp),Aq H H'->(b=true ↔ ∃ ss:List Str,ds=ss.map PyData.str/\(∀ s ∈ ss,Bm s=true)/\Ey ss)->Q (.bl b) H'
end L2
namespace HT
open PySem PySem.Spec PyProof.Rows
section
variable {prog:Program} {w:World} {A:Around} {E:Value->Shared->Prop} {s:Shared}
end
end HT
namespace L2
open PySem PySem.Spec PyProof.Rows
section
variable {X:Cx} {Φ:St->Hp->Prop} {a b:Expr} {pos:Pos} {n m:Nat}
end
section
variable {Φ:St->Hp->Prop} {n:Nat}
end
theorem Mn {X:Cx}:EA X (compareOp .IsNot) (fun x y H Q=>∃ b c,x=.bl b/\y=.bl c/\Q (.bl (!(b == c))) H):=by
 intro pins s σ H x y v u Q I rx ry h;obtain ⟨b,c,rfl,rfl,q⟩:=h;cases rx
 cases ry
 have e:EP X pins σ Q (.bool (!(b == c))) s:=⟨.bl _,H,I,rfl,q⟩
 cases b <;> cases c <;> exact wpAny_pure e
def F1 (m:Int) (u:AJ):AJ:=(u.1,u.2.1,u.2.2 * m)
theorem A6.same {H H':Hp} {p:Addr} (h:A6 H p) (s:Aq H H'):A6 H' p:=by obtain ⟨_,_,_,z⟩:=h; exact ⟨_,_,_,s _ _ z⟩
theorem Qa {H:Hp} {m:Addr} {t1 t2:Addr} {vs:List V} {xs ps:List Str} {ws Gu:List AJ} {mu:Int} (XH:1<=mu) (X9:mu<=10 ^ 20)
  (h1:H m=some (.tup [.ref t1,.ref t2])) (h2:H t1=some (.tup (ps.map V.str))) (h3:H t2=some (.tup vs)) (h4:AE H vs ((ws.map (F1 mu)).map Ee)) (pp:ps.Perm xs) (so:sortedS ps=true) (xnd:xs.Nodup) (xnm:∀ x ∈ xs,Bm x=true)
  (wp:ws.Perm (Gu.map Ep)) (wc:Dy xs Gu) (w9:∀ u ∈ Gu,u.2.2<=9) (wl:Gu.length<=30):Gr H m ps.length ps (ws.map (F1 mu)):=by
 have l:ws.length=Gu.length:=by rw [wp.length_eq,ZA]
 refine ⟨⟨⟨t1,t2,vs,h1,h2,h3,h4⟩,rfl,pp.nodup_iff.mpr xnd,fun x hx=>xnm x (pp.mem_iff.mp hx),by rw [ZA]; lia,fun u hu=>?_⟩,⟨xs,Gu.map (F1 mu),pp,?_,?_⟩,so,by rw [ZA]; lia⟩
 ·obtain ⟨v,hv,rfl⟩:=ZO.mp hu;obtain ⟨u,W7,rfl⟩:=ZO.mp (wp.mem_iff.mp hv);obtain ⟨a,b,c,d⟩:=wc.1 u W7;have e9:=w9 u W7;have n1:=xnm _ a;have n2:=xnm _ b;have g1:1<=u.2.2 * mu:=by
   have:=cR d XH (by decide) (by lia);lia
  have g2:u.2.2 * mu<=9 * 10 ^ 20:=cR e9 X9 (by lia) (by decide);exists ?_,?_,g1
  ·show Bm (Ep u).1=true
   rcases C3 u with ⟨z,_⟩ | ⟨z,_⟩ <;> rw [z] <;> assumption
  ·show Bm (Ep u).2.1=true
   rcases C3 u with ⟨_,z⟩ | ⟨_,z⟩ <;> rw [z] <;> assumption
  ·have:(9:Int) * 10 ^ 20 < 10 ^ 30:=by decide
   show u.2.2 * mu < 10 ^ 30
   lia
 ·have:=wp.map (F1 mu);rw [aL] at this ⊢;exact this
 ·refine wc.lens (by rw [ZA]) fun i u u' e1 e2=>?_
  rw [ZL,e1] at e2;cases e2
  exists rfl,rfl;obtain ⟨_,_,_,d⟩:=wc.1 u (ZE e1);show 1<=u.2.2 * mu
  have:=cR d XH (by decide) (by lia);lia
def Ox:Sp:=fun vs H Q _=>∃ (p:Addr) (kd:Int),vs=[.ref p,.int kd]/\A6 H p /\
 ∀ (H':Hp) (c m:Addr) (n:Nat) (xs:List Str) (ws:List AJ) (Ap Ar:List AY) (x:V) (d:PyData),A6 H' p->A9 p H H'->Cc H' c m n xs ws Ap Ar x d->(∀ r ∈ Ar,r.2<=4)->Q (.ref c) H'
theorem UB (b:Bool):(if b=true then (1:Int) else 0)=0\/(if b=true then (1:Int) else 0)=1:=by cases b <;> simp
theorem CM {m:Int} (h:m<=1000):m < 2 ^ 600:=cZ h (by decide +kernel)
theorem DP.names {xs ps:List Str} {lo:Int} {rs:List AY} (h:DP xs lo rs) (p:ps.Perm xs):DP ps lo rs:=⟨fun r hr=>p.mem_iff.mpr (h.sub r hr),h.nd,h.lo,h.one⟩
def oI:Option Int->V
 | none=>.non
 | some n=>.int n
def MV (H:Hp) (A:Addr) (G:Str->Str->Option V) (c:Nat):Prop:=∃ kvs:List (List Bj × V),H A=some (.dT kvs)/\kvs.length<=c/\∀ x y,B9 kvs [Sum.inr x,Sum.inr y]=G x y
theorem MV.same {H H':Hp} {A:Addr} {G:Str->Str->Option V} {c:Nat} (h:MV H A G c) (s:Aq H H'):MV H' A G c:=let ⟨kvs,a,b,d⟩:=h; ⟨kvs,s _ _ a,b,d⟩
theorem MV.up {H:Hp} {A:Addr} {G:Str->Str->Option V} {c c':Nat} (h:MV H A G c) (l:c<=c'):MV H A G c':=let ⟨kvs,a,b,d⟩:=h; ⟨kvs,a,aj b l,d⟩
def Nl (G:Str->Str->Option V) (x y:Str) (v:V):Str->Str->Option V:=fun a b=>if a=x/\b=y then some v else G a b
theorem MV.get {H:Hp} {A t:Addr} {G:Str->Str->Option V} {c:Nat} (h:MV H A G c) {x y:Str} (ht:H t=some (.tup [.str x,.str y])):Cn H A (.ref t) (G x y):=by
 obtain ⟨kvs,a,_,d⟩:=h;rw [<-d x y];exact Cn.t (k:=[Sum.inr x,Sum.inr y]) a ht
theorem MV.put {H:Hp} {A t:Addr} {G:Str->Str->Option V} {c:Nat} (h:MV H A G c) (hc:c < sizeLine) {x y:Str} {v:V} (ht:H t=some (.tup [.str x,.str y])):∃ H',FD H A (.ref t) v H'/\MV H' A (Nl G x y v) (c + 1)/\∃ kvs,H'=upd H A (.dT kvs):=by
 obtain ⟨kvs,a,b,d⟩:=h;refine ⟨_,FD.t (k:=[Sum.inr x,Sum.inr y]) a ht (by lia),⟨_,Ab,?_,fun p q=>?_⟩,_,rfl⟩
 ·have:=CD kvs [Sum.inr x,Sum.inr y] v;lia
 ·rw [QN];unfold Nl;by_cases e:p=x/\q=y
  ·obtain ⟨rfl,rfl⟩:=e;simp
  ·have e':¬ ([Sum.inr p,Sum.inr q]:List Bj)=[Sum.inr x,Sum.inr y]:=fun z=>by
    simp only [cQ.injEq,Sum.inr.injEq,and_true] at z;exact e z
   rw [if_neg e',if_neg e,d]
def MO (H:Hp) (A:Addr) (xs:List Str) (M:Str->Str->Option Int) (c:Nat):Prop:=∃ G,MV H A G c/\(∀ x ∈ xs,∀ y ∈ xs,G x y=some (oI (M x y)))/\∀ x y,¬ (x ∈ xs/\y ∈ xs)->G x y=none
theorem MO.same {H H':Hp} {A:Addr} {xs:List Str} {M:Str->Str->Option Int} {c:Nat} (h:MO H A xs M c) (s:Aq H H'):MO H' A xs M c:=let ⟨G,a,b⟩:=h; ⟨G,a.same s,b⟩
theorem MO.up {H:Hp} {A:Addr} {xs:List Str} {M:Str->Str->Option Int} {c c':Nat} (h:MO H A xs M c) (l:c<=c'):MO H A xs M c':=let ⟨G,a,b⟩:=h; ⟨G,a.up l,b⟩
theorem MO.get {H:Hp} {A t:Addr} {xs:List Str} {M:Str->Str->Option Int} {c:Nat} (h:MO H A xs M c) {x y:Str} (hx:x ∈ xs) (hy:y ∈ xs) (ht:H t=some (.tup [.str x,.str y])):Cn H A (.ref t) (some (oI (M x y))):=by
 obtain ⟨G,a,b,_⟩:=h;rw [<-b x hx y hy];exact a.get ht
theorem MO.put {H:Hp} {A t:Addr} {xs:List Str} {M:Str->Str->Option Int} {c:Nat} (h:MO H A xs M c) (hc:c < sizeLine) {x y:Str} (hx:x ∈ xs) (hy:y ∈ xs) {n:Int} (ht:H t=some (.tup [.str x,.str y])):∃ H',FD H A (.ref t) (.int n) H'/\MO H' A xs (KZ M x y n) (c + 1)/\∃ kvs,H'=upd H A (.dT kvs):=by
 obtain ⟨G,a,b,d⟩:=h;obtain ⟨H',dp,mv,e⟩:=a.put hc (v:=.int n) ht;refine ⟨H',dp,⟨_,mv,fun p hp q hq=>?_,fun p q hn=>?_⟩,e⟩
 ·unfold Nl KZ;split
  ·rfl
  ·exact b p hp q hq
 ·unfold Nl;rw [if_neg (fun z=>hn ⟨by rw [z.1]; exact hx,by rw [z.2]; exact hy⟩)];exact d p q hn
theorem MO.md {H:Hp} {A:Addr} {xs:List Str} {M:Str->Str->Option Int} {c:Nat} (h:MO H A xs M c) (full:∀ x ∈ xs,∀ y ∈ xs,∃ n,M x y=some n):MD H A (fun x y=>if x ∈ xs/\y ∈ xs then M x y else none) c:=by
 obtain ⟨G,⟨kvs,a,b,d⟩,e,f⟩:=h;refine ⟨kvs,a,b,fun x y=>?_⟩;rw [d x y];dsimp only;by_cases hxy:x ∈ xs/\y ∈ xs
 ·obtain ⟨n,hn⟩:=full x hxy.1 y hxy.2;rw [e x hxy.1 y hxy.2,if_pos hxy,hn];rfl
 ·rw [f x y hxy,if_neg hxy];rfl
def Ov:Sp:=fun vs H Q _=>∃ (c m:Addr) (n:Nat) (xs:List Str) (ws:List AJ) (Ap Ar:List AY) (x:V) (d:PyData),vs=[.ref c]/\Cc H c m n xs ws Ap Ar x d/\∀ (H':Hp) (A:Addr),Aq H H'->H A=none->BU H' A xs ws->Q (.ref A) H'
open Classical in
noncomputable def dst (ws:List AJ) (x y:Str):Int:=if h:∃ n,KI ws x y n then h.choose else 0
theorem KI.dst {ws:List AJ} {x y:Str} {n:Int} (h:KI ws x y n):dst ws x y=n:=by
 unfold L2.dst;rw [dif_pos ⟨n,h⟩];exact KI.uniq (Exists.choose_spec (⟨n,h⟩:∃ n,KI ws x y n)) h
noncomputable def DN (ws:List AJ) (x:Str) (r:AY) (p:Int):Int:=max (p - r.2 * dst ws x r.1) 0
noncomputable def B8 (ws:List AJ) (x:Str) (rs qs:List AY):Int:=((rs.zip qs).map fun z=>DN ws x z.1 z.2.2).sum
structure LB (rs qs:List AY):Prop where
 nm:qs.map (·.1)=rs.map (·.1)
 lo:∀ q ∈ qs,0<=q.2
theorem LB.len {rs qs:List AY} (h:LB rs qs):qs.length=rs.length:=by
 have:=congrArg b9 h.nm;rwa [ZA,ZA] at this
theorem LB.at {rs qs:List AY} (h:LB rs qs) {i:Nat} {q:AY} (e:qs[i]? = some q):∃ r,rs[i]? = some r/\r.1=q.1:=by
 have:=congrArg (fun l=>l[i]?) h.nm;rw [ZL,ZL,e] at this;cases z:rs[i]? with
 | none=>rw [z] at this; cases this
 | some r=>rw [z] at this; exact ⟨r,rfl,(ZZ.inj this).symm⟩
structure CP (H:Hp) (c m t:Addr) (n:Nat) (xs:List Str) (ws:List AJ) (Ap Ar qs:List AY) (x:V) (d:PyData):Prop where
 cw:Cc H c m n xs ws Ap Ar x d
 few:∀ r ∈ Ar,r.2<=4
 ex:∃ us,H t=some (.tup us)/\AE H us (qs.map Cm)
 ok:LB Ar qs
theorem CP.same {H H':Hp} {c m t:Addr} {n:Nat} {xs:List Str} {ws:List AJ} {Ap Ar qs:List AY} {x:V} {d:PyData} (h:CP H c m t n xs ws Ap Ar qs x d) (s:Aq H H'):CP H' c m t n xs ws Ap Ar qs x d:=by
 obtain ⟨us,a,b⟩:=h.ex;exact ⟨h.cw.same s,h.few,⟨us,s _ _ a,Bi b fun b ys z=>s _ _ z⟩,h.ok⟩
theorem CP.names {H:Hp} {c m t:Addr} {n:Nat} {xs:List Str} {ws:List AJ} {Ap Ar qs:List AY} {x:V} {d:PyData} (h:CP H c m t n xs ws Ap Ar qs x d):∀ q ∈ qs,q.1 ∈ xs/\Bm q.1=true:=fun q hq=>by
 have h1:q.1 ∈ Ar.map (·.1):=by rw [<-h.ok.nm]; exact ZO.mpr ⟨q,hq,rfl⟩
 obtain ⟨r,hr,e⟩:=ZO.mp h1;have h2:=h.cw.ok2.sub r hr;have e':r.1=q.1:=e;rw [e'] at h2;exact ⟨h2,h.cw.map.at'.nm _ h2⟩
def NZ (x:V) (lv:Int):Prop:=0<=lv/\lv<=1000/\(x=.non->lv=0)
def IC:Sp:=fun vs H Q _=>∃ (c m t:Addr) (n:Nat) (xs:List Str) (ws:List AJ) (Ap Ar qs:List AY) (x:V) (d:PyData) (v:V) (y:Str),vs=[.ref c,.ref t,v]/\CP H c m t n xs ws Ap Ar qs x d/\DQ H v xs ws y/\∀ H',Aq H H'->Q (.int (B8 ws y Ar qs)) H'
theorem DQ.get {H:Hp} {v:V} {xs:List Str} {ws:List AJ} {s y:Str} (h:DQ H v xs ws s) (nd:xs.Nodup) (hy:y ∈ xs):∃ B,v=.ref B/\Cn H B (.str y) (some (.int (dst ws s y))):=by
 obtain ⟨B,nb,rfl,hB,ks,hd⟩:=h;rw [<-ks] at hy;obtain ⟨⟨z,u⟩,hm,e⟩:=ZO.mp hy;have e':z=y:=e;subst e';obtain ⟨n,rfl,d⟩:=hd z u hm;rw [d.dst];exact ⟨B,rfl,.inl ⟨_,Sum.inr z,.inl hB,rfl,(DE (nv:=nb) (by rw [ks]; exact nd) hm).symm⟩⟩
theorem Vp (i:Int):(if (0:Int) > i then 0 else i)=max i 0:=by
 rw [gy];split <;> split <;> lia
theorem Tb (i:Int):(if i > (0:Int) then i else 0)=max i 0:=by
 rw [gy];split <;> split <;> lia
theorem K4 {ws:List AJ} {y:Str} {rs qs:List AY} {i:Nat} {r q:AY} (hr:rs[i]? = some r) (hq:qs[i]? = some q):((rs.zip qs).take (i + 1)).map (fun z=>DN ws y z.1 z.2.2)=((rs.zip qs).take i).map (fun z=>DN ws y z.1 z.2.2) ++ [DN ws y r q.2]:=by
 have e:(rs.zip qs)[i]? = some (r,q):=by
  rw [bD];exact ⟨hr,hq⟩
 rw [ZR,e,ZG];rfl
theorem Ob {rs qs:List AY} (h:qs.length=rs.length):(rs.zip qs).length=rs.length:=by rw [bH]; lia
noncomputable def BV (ws:List AJ) (Ap Ar qs:List AY) (lv:Int):Bool:=Ap.all fun r=>decide (B8 ws r.1 Ar qs<=r.2 + lv)
def IA (qs:List AY):Int:=(qs.map (·.2)).sum
def Qc (x:V) (qs:List AY) (lv:Int):Int:=match x with | .int l=>IA qs - l * lv | _=>IA qs
def PV (qs:List AY) (i:Nat):AY:=qs.getD i (Str.empty,0)
def BQ (qs:List AY) (i:Nat) (n:Int):List AY:=qs.take i ++ (((PV qs i).1,n) :: qs.drop (i + 1))
noncomputable def fullB (ws:List AJ) (Ap Ar qs:List AY) (lv:Int):Bool:=!((aP qs.length).any fun i=>BV ws Ap Ar (BQ qs i ((PV qs i).2 + 1)) lv)
theorem Lp {qs:List AY} {i:Nat} {q:AY} (h:qs[i]? = some q):PV qs i=q:=by unfold PV; rw [ZP,h]; rfl
theorem Mg {qs:List AY} {i:Nat} {n:Int} (h:i < qs.length):(BQ qs i n).map (·.1)=qs.map (·.1):=by
 have e:qs[i]? = some qs[i]:=Z9 h;unfold BQ;rw [Lp e,ZG,ZS];have:qs=qs.take i ++ (qs[i] :: qs.drop (i + 1)):=by rw [<-bh h,bP]
 conv=>rhs; rw [this,ZG,ZS]
theorem SM {rs qs:List AY} {i:Nat} {n:Int} (h:LB rs qs) (hi:i < qs.length) (n0:0<=n):LB rs (BQ qs i n):=by
 refine ⟨by rw [Mg hi]; exact h.nm,fun q hq=>?_⟩;unfold BQ at hq;rcases af.mp hq with z | z
 ·exact h.lo q (cO z)
 ·rcases ZF.mp z with z | z
  ·rw [z]; exact n0
  ·exact h.lo q (eL z)
theorem VC (us:List V) (i:Nat) (h:i < us.length):J1 us none (some (i:Int))=us.take i:=by
 unfold J1;have e1:HT.sIx us.length 0 none=0:=rfl;have e2:HT.sIx us.length us.length (some (i:Int))=i:=by
  unfold HT.sIx;simp only [];split <;> lia
 rw [e1,e2,cM,Nat.sub_zero]
theorem VD (us:List V) (i:Nat) (h:i < us.length):J1 us (some ((i:Int) + 1)) none=us.drop (i + 1):=by
 unfold J1;have e1:HT.sIx us.length us.length none=us.length:=rfl;have e2:HT.sIx us.length 0 (some ((i:Int) + 1))=i + 1:=by
  unfold HT.sIx;simp only [];split <;> lia
 rw [e1,e2];exact aK (by rw [bA]; lia)
theorem NT {K:ZD} {H:Hp} {a b:Addr} {xs ys:List V} {Q:VK} (ha:H a=some (.tup xs)) (hb:H b=some (.tup ys)) (l:xs.length + ys.length<=sizeLine) (q:∀ T H',Aq H H'->H' T=some (.tup (xs ++ ys))->Q (.ref T) H'):Rr K (.ref a) (.ref b) H Q:=by
 refine ⟨a,b,xs,ys,rfl,rfl,Ay.of ha,Ay.of hb,l,fun e=>?_,fun _ e=>?_,fun _ _ T hT=>?_⟩
 ·refine q b H (Aq.refl _) ?_;rw [hb,e];rfl
 ·refine q a H (Aq.refl _) ?_;rw [ha,e,bV]
 ·exact q T _ (Ad hT) Ab
theorem UO {K:ZD} {H:Hp} {t:Addr} {us:List V} {i:Nat} {Q:VK} (ht:H t=some (.tup us)) (hi:i < us.length) (q:∀ Z H',Aq H H'->H' Z=some (.tup (us.take i))->Q (.ref Z) H'):SI K (.ref t) none (some (i:Int)) H Q:=by
 refine ⟨t,us,rfl,Ay.of ht,fun z=>?_,fun p hp=>q p _ (Ad hp) (by rw [Ab,VC us i hi])⟩;have:=z.2;rw [HT.sIx_nat] at this;lia
theorem UP {K:ZD} {H:Hp} {t:Addr} {us:List V} {i:Nat} {Q:VK} (ht:H t=some (.tup us)) (hi:i < us.length) (q:∀ Z H',Aq H H'->H' Z=some (.tup (us.drop (i + 1)))->Q (.ref Z) H'):SI K (.ref t) (some ((i:Int) + 1)) none H Q:=by
 refine ⟨t,us,rfl,Ay.of ht,fun z=>?_,fun p hp=>q p _ (Ad hp) (by rw [Ab,VD us i hi])⟩;have:=z.1;rw [show ((i:Int) + 1)=((i + 1:Nat):Int) by lia,HT.sIx_nat] at this;lia
theorem Jy {H:Hp}:∀ {us:List V} {ds:List PyData} (i:Nat),AE H us ds->AE H (us.take i) (ds.take i)
 | _,_,0,_=>by rw [cP,cP]; exact .nil
 | _,_,i + 1,.nil=>by rw [gc,gc]; exact .nil
 | _,_,i + 1,.cons h r=>by rw [eP,eP]; exact .cons h (Jy i r)
theorem J0 {H:Hp}:∀ {us:List V} {ds:List PyData} (i:Nat),AE H us ds->AE H (us.drop i) (ds.drop i)
 | _,_,0,h=>by rw [cM,cM]; exact h
 | _,_,i + 1,.nil=>by rw [gf,gf]; exact .nil
 | _,_,i + 1,.cons h r=>by rw [eQ,eQ]; exact J0 i r
theorem putD {H:Hp} {us:List V} {qs:List AY} {i:Nat} {n:Int} {T:Addr} (h:AE H us (qs.map Cm)) (hT:H T=some (.tup [.str (PV qs i).1,.int n])):AE H ((us.take i ++ [.ref T]) ++ us.drop (i + 1)) ((BQ qs i n).map Cm):=by
 unfold BQ;rw [ZG,ZS,List.map_take,List.map_drop,aQ];exact CG (Jy i h) (.cons (FV (u:=((PV qs i).1,n)) hT) (J0 (i + 1) h))
theorem CP.put {H:Hp} {c m t T T2:Addr} {n:Nat} {xs:List Str} {ws:List AJ} {Ap Ar qs:List AY} {x:V} {d:PyData} {us:List V} {i:Nat} {p:Int} (h:CP H c m t n xs ws Ap Ar qs x d) (du:AE H us (qs.map Cm)) (hi:i < qs.length) (p0:0<=p)
  (hT:H T=some (.tup [.str (PV qs i).1,.int p])) (h2:H T2=some (.tup ((us.take i ++ [.ref T]) ++ us.drop (i + 1)))):CP H c m T2 n xs ws Ap Ar (BQ qs i p) x d:=
 ⟨h.cw,h.few,⟨_,h2,putD du hT⟩,SM h.ok hi p0⟩
theorem MB (ws:List AJ) (x:Str) (r:AY) (p:Int):0<=DN ws x r p:=by unfold DN; exact Int.le_max_right _ _
theorem KQ:∀ {l:List Int},(∀ x ∈ l,0<=x)->0<=l.sum
 | [],_=>by simp
 | a :: l,h=>by
  rw [aI];have:=h a ae;have:=KQ (l:=l) fun x hx=>h x (ZW _ hx)
  lia
theorem Qm (ws:List AJ) (x:Str) (rs qs:List AY):0<=B8 ws x rs qs:=KQ fun y hy=>by
 obtain ⟨z,_,rfl⟩:=ZO.mp hy;exact MB _ _ _ _
theorem BU.get {H:Hp} {A t:Addr} {xs:List Str} {ws:List AJ} {y z:Str} (h:BU H A xs ws) (hy:y ∈ xs) (hz:z ∈ xs) (ht:H t=some (.tup [.str y,.str z])):Cn H A (.ref t) (some (.int (dst ws z y)))/\0<=dst ws z y/\dst ws z y < 2 ^ 300:=by
 obtain ⟨M,c,md,hm⟩:=h;obtain ⟨n,e,d,n0,n1⟩:=hm y hy z hz;have:=md.get ht;rw [e] at this;rw [d.symm.dst];exact ⟨this,n0,n1⟩
def E2 (H:Hp) (D:Addr) (xs:List Str) (ws:List AJ) (Ap:List AY):Prop:=∃ nv:List (Str × V),H D=some (.dK (sK nv))/\nv.map (·.1)=Ap.map (·.1)/\∀ s v,(s,v) ∈ nv->DQ H v xs ws s
theorem E2.same {H H':Hp} {D:Addr} {xs:List Str} {ws:List AJ} {Ap:List AY} (h:E2 H D xs ws Ap) (s:Aq H H'):E2 H' D xs ws Ap:=let ⟨nv,a,b,c⟩:=h; ⟨nv,s _ _ a,b,fun z v hz=>(c z v hz).same s⟩
theorem E2.get {H:Hp} {D:Addr} {xs:List Str} {ws:List AJ} {Ap:List AY} (h:E2 H D xs ws Ap) (nd:(Ap.map (·.1)).Nodup) {r:AY} (hr:r ∈ Ap):∃ v,Cn H D (.str r.1) (some v)/\DQ H v xs ws r.1:=by
 obtain ⟨nv,a,b,c⟩:=h;have hy:r.1 ∈ nv.map (·.1):=by rw [b]; exact ZO.mpr ⟨r,hr,rfl⟩
 obtain ⟨⟨z,v⟩,hm,e⟩:=ZO.mp hy;have e':z=r.1:=e;subst e';exact ⟨v,.inl ⟨_,Sum.inr r.1,.inl a,rfl,(DE (nv:=nv) (by rw [b]; exact nd) hm).symm⟩,c _ _ hm⟩
def Kf:Sp:=fun vs H Q _=>∃ (c m t D:Addr) (n:Nat) (xs:List Str) (ws:List AJ) (Ap Ar qs:List AY) (x:V) (d:PyData) (lv:Int),vs=[.ref c,.ref D,.ref t,.int lv]/\CP H c m t n xs ws Ap Ar qs x d/\E2 H D xs ws Ap/\∀ H',Aq H H'->Q (.bl (BV ws Ap Ar qs lv)) H'
def KU:Sp:=fun vs H Q _=>∃ (c m t:Addr) (n:Nat) (xs:List Str) (ws:List AJ) (Ap Ar qs:List AY) (x:V) (d:PyData) (lv:Int),vs=[.ref c,.ref t,.int lv]/\CP H c m t n xs ws Ap Ar qs x d/\NZ x lv/\∀ H',Aq H H'->Q (.int (Qc x qs lv)) H'
def Ou:Sp:=fun vs H Q _=>∃ (c m t A:Addr) (n:Nat) (xs:List Str) (ws:List AJ) (Ap Ar qs:List AY) (x:V) (d:PyData) (y:Str),vs=[.ref c,.ref A,.ref t,.str y]/\CP H c m t n xs ws Ap Ar qs x d/\BU H A xs ws/\y ∈ xs/\∀ H',Aq H H'->Q (.int (B8 ws y Ar qs)) H'
theorem Rq {du lv g r d:Int} (h1:du < 10 ^ 30) (h2:lv<=1000) (h3:0<=g) (h4:1<=r) (h5:r<=4) (h6:0<=d) (h7:d < 2 ^ 300):du + lv - g + r * d < 2 ^ 400:=by
 have a:r * d<=4 * d:=bq h5 h6;have b:(4:Int) * 2 ^ 300 + 10 ^ 30 + 2000<=2 ^ 400:=by decide +kernel
 have c:(10:Int) ^ 30=1000000000000000000000000000000:=by decide
 generalize (2:Int) ^ 300=X at *;generalize (2:Int) ^ 400=Y at *;generalize r * d=Z at *;rw [c] at *;lia
theorem CP.keepT {H H':Hp} {c m t:Addr} {n:Nat} {xs:List Str} {ws:List AJ} {Ap Ar qs:List AY} {x:V} {d:PyData} (h:CP H c m t n xs ws Ap Ar qs x d) (s:∀ b ys,H b=some (.tup ys)->H' b=some (.tup ys)):CP H' c m t n xs ws Ap Ar qs x d:=by
 obtain ⟨us,a,b⟩:=h.ex;exact ⟨h.cw.keepT s,h.few,⟨us,s _ _ a,Bi b s⟩,h.ok⟩
theorem BU.keep {H H':Hp} {A p:Addr} {xs:List Str} {ws:List AJ} (h:BU H A xs ws) (hp:A6 H p) (k:A9 p H H'):BU H' A xs ws:=by
 obtain ⟨M,c,⟨kvs,a,b,e⟩,r⟩:=h;refine ⟨M,c,⟨kvs,k _ _ (fun z=>?_) a,b,e⟩,r⟩;subst z;obtain ⟨_,_,_,z⟩:=hp;rw [z] at a;cases a
theorem Vr {m:Int} (h:m < 2 ^ 400):m + 1 < 2 ^ 600:=by
 have b:(2:Int) ^ 400 + 1 < 2 ^ 600:=by decide +kernel
 generalize (2:Int) ^ 400=X at *;generalize (2:Int) ^ 600=Y at *;lia
def Fo (rs:List AY):List AY:=rs.map fun r=>(r.1,0)
theorem QD (rs:List AY):LB rs (Fo rs):=by
 refine ⟨by unfold Fo; rw [aL]; rfl,fun q hq=>?_⟩;obtain ⟨r,_,rfl⟩:=ZO.mp hq;exact aV _
theorem OA {qs:List AY} {i:Nat} {p:Int} (h:i < qs.length):PV (BQ qs i p) i=((PV qs i).1,p):=by
 refine Lp ?_;unfold BQ;rw [ay (by rw [ah]; lia),ah,Nat.min_eq_left (by lia),di];rfl
theorem Rt {qs:List AY} {i:Nat} {p:Int} (h:i < qs.length):(BQ qs i p).length=qs.length:=by
 have:=congrArg b9 (Mg (n:=p) h);rwa [ZA,ZA] at this
theorem LN {α:Type} (f g:α->Int):∀ l:List α,(l.map fun a=>f a + g a).sum=(l.map f).sum + (l.map g).sum
 | []=>rfl
 | a :: l=>by
  rw [ZS,ZS,ZS,aI,aI,aI,LN f g l];lia
theorem I0 {α:Type} {f:α->Int} (h0:∀ a,0<=f a):∀ {l:List α} {a:α},a ∈ l->f a<=(l.map f).sum
 | b :: l,a,h=>by
  rw [ZS,aI];have h1:=h0 b;have h2:0<=(l.map f).sum:=KQ fun x hx=>by obtain ⟨z,_,rfl⟩:=ZO.mp hx; exact h0 z
  rcases ZF.mp h with rfl | h
  ·lia
  ·have:=I0 h0 h;lia
theorem C6 (ws:List AJ) (x:Str) (r q:AY) (rs qs:List AY):B8 ws x (r :: rs) (q :: qs)=DN ws x r q.2 + B8 ws x rs qs:=by
 unfold B8;rw [bI,ZS,aI]
theorem Kr {ws:List AJ} {ss:List Str}:∀ {rs qs:List AY} {ds:List Int},qs.length=rs.length->Si ws ss rs ds->IA qs<=BW rs ds + (ss.map fun h=>B8 ws h rs qs).sum
 | [],[],ds,_,_=>by
  have e:(ss.map fun h=>B8 ws h [] []).sum=0:=by
   have:∀ l:List Str,(l.map fun h=>B8 ws h [] []).sum=0:=fun l=>by
    induction l with
    | nil=>rfl
    | cons a l ih=>rw [ZS,aI,ih]; rfl
   exact this ss
  rw [e];unfold BW IA;simp
 | r :: rs,q :: qs,[],_,h=>absurd h.1 (by simp)
 | r :: rs,q :: qs,d :: ds,hl,h=>by
  have ih:=Kr (ws:=ws) (ss:=ss) (rs:=rs) (qs:=qs) (ds:=ds) (by simpa using hl) ⟨by simpa using h.1,fun i r' d' e1 e2=>h.2 (i + 1) r' d' e1 e2⟩;obtain ⟨⟨s,hs,w1⟩,low⟩:=h.2 0 r d rfl rfl;have ds':KI ws s r.1 d:=⟨w1,fun m g=>low s hs m g⟩
  have g1:q.2 - r.2 * d<=DN ws s r q.2:=by
   unfold DN;rw [ds'.dst];exact Int.le_max_left _ _
  have g2:=I0 (f:=fun h=>DN ws h r q.2) (fun h=>MB ws h r q.2) hs;have e:(fun h=>B8 ws h (r :: rs) (q :: qs))=fun h=>DN ws h r q.2 + B8 ws h rs qs:=by
   funext h;exact C6 ws h r q rs qs
  rw [e,LN];have e2:IA (q :: qs)=q.2 + IA qs:=by unfold IA; rw [ZS,aI]
  have e3:BW (r :: rs) (d :: ds)=r.2 * d + BW rs ds:=by unfold BW; rw [bI,ZS,aI]
  rw [e2,e3];lia
theorem Ke {ws:List AJ} {Ap Ar qs:List AY} {lv:Int} (h:BV ws Ap Ar qs lv=true) (nd:(Ap.map (·.1)).Nodup):∀ {ss:List Str},(∀ s ∈ ss,s ∈ Ap.map (·.1))->(ss.map fun s=>B8 ws s Ar qs).sum<=(ss.map (BI Ap)).sum + ss.length * lv
 | [],_=>by simp
 | s :: ss,hs=>by
  have ih:=Ke h nd (ss:=ss) fun x hx=>hs x (ZW _ hx)
  obtain ⟨r,hr,e⟩:=ZO.mp (hs s ae);have e':r.1=s:=e;subst e';have g:=of_decide_eq_true (aG.mp h r hr);rw [ZS,ZS,aI,aI,Cg nd hr,az,Int.natCast_add,gx];lia
theorem Vs {ws:List AJ} {Ap Ar qs:List AY} {lv t:Int} {x:V} {d:PyData} {ss:List Str} (h:BV ws Ap Ar qs lv=true) (nd:(Ap.map (·.1)).Nodup) (ok:LB Ar qs) (Wy:0<=lv) (lz:x=.non->lv=0) (lim:Lim x d) (hs:ss.Sublist (Ap.map (·.1))) (lb:Gb x ss.length=true) (tt:U3 ws Ap Ar ss t):Qc x qs lv<=t:=by
 obtain ⟨ds,wd,rfl⟩:=tt;have a:=Kr (qs:=qs) ok.len wd;have b:=Ke h nd fun s Q4=>hs.subset Q4
 rcases lim with ⟨rfl,_⟩ | ⟨i,rfl,_,i1,_⟩
 ·rw [lz rfl] at b;show IA qs<=_
  simp at b;lia
 ·have c:(ss.length:Int) * lv<=i * lv:=bq (of_decide_eq_true lb) Wy;show IA qs - i * lv<=_
  lia
theorem BU.dst {H:Hp} {A:Addr} {xs:List Str} {ws:List AJ} {x y:Str} (h:BU H A xs ws) (hx:x ∈ xs) (hy:y ∈ xs):KI ws x y (L2.dst ws x y):=by
 obtain ⟨M,c,md,hm⟩:=h;obtain ⟨n,_,d,_⟩:=hm x hx y hy;rw [d.dst];exact d
theorem Mz {rs:List AY} {ds:List Int} {i:Nat} {r:AY} {d:Int} (hr:rs[i]? = some r) (hl:ds.length=i):BW (rs.take (i + 1)) (ds ++ [d])=BW (rs.take i) ds + r.2 * d:=by
 have hi:=(ZN.mp hr).1;unfold BW;rw [ZR,hr];have e:(rs.take i).length=ds.length:=by rw [ah,hl]; lia
 show (List.map _ ((rs.take i ++ [r]).zip (ds ++ [d]))).sum=_
 rw [fu e,ZG,dz];simp
def Ow:Sp:=fun vs H Q _=>∃ (c m A o:Addr) (n:Nat) (xs:List Str) (ws:List AJ) (Ap Ar:List AY) (x:V) (d:PyData) (ss:List Str),vs=[.ref c,.ref A,.ref o]/\Cc H c m n xs ws Ap Ar x d/\(∀ r ∈ Ar,r.2<=4)/\BU H A xs ws/\H o=some (.tup (ss.map V.str))/\Opn (Ap.map (·.1)) ss/\ss.length<=10 /\
 ∀ (H':Hp) (t:Int),Aq H H'->U3 ws Ap Ar ss t->Q (.int t) H'
theorem Jq {ws:List AJ} {x:Str}:∀ {rs qs:List AY} {i:Nat} {r q:AY},rs[i]? = some r->qs[i]? = some q->∀ p:Int,B8 ws x rs (BQ qs i p) + DN ws x r q.2=B8 ws x rs qs + DN ws x r p
 | [],_,_,_,_,h,_,_=>by simp at h
 | _ :: _,[],_,_,_,_,h,_=>by simp at h
 | r0 :: rs,q0 :: qs,0,r,q,h1,h2,p=>by
  simp only [aJ,ZZ.injEq] at h1 h2;subst h1 h2;show B8 ws x (r0 :: rs) ((q0.1,p) :: qs) + _=_
  rw [C6,C6];show DN ws x r0 p + _ + _=_
  lia
 | r0 :: rs,q0 :: qs,i + 1,r,q,h1,h2,p=>by
  simp only [bM] at h1 h2;have ih:=Jq (ws:=ws) (x:=x) h1 h2 p;show B8 ws x (r0 :: rs) (q0 :: BQ qs i p) + _=_
  rw [C6,C6];lia
theorem IK:∀ {qs:List AY} {i:Nat} {p p':Int},i < qs.length->BQ (BQ qs i p) i p'=BQ qs i p'
 | [],_,_,_,h=>by simp at h
 | q :: qs,0,p,p',_=>rfl
 | q :: qs,i + 1,p,p',h=>by
  show q :: BQ (BQ qs i p) i p'=q :: BQ qs i p'
  rw [IK (by simpa using h)]
theorem Pj {ws:List AJ} {Ap Ar qs:List AY} {lv:Int} {i:Nat} {r q:AY} {mn p:Int} (h:BV ws Ap Ar qs lv=true) (hr:Ar[i]? = some r) (hq:qs[i]? = some q) (rq:r.1=q.1) (q0:0<=q.2) (hd:∀ s ∈ Ap,0<=r.2 * dst ws s.1 q.1)
  (hm:∀ s ∈ Ap,mn<=s.2 + lv - B8 ws s.1 Ar (BQ qs i 0) + r.2 * dst ws s.1 q.1) (hp:p<=if mn > 0 then mn else 0):BV ws Ap Ar (BQ qs i p) lv=true:=by
 unfold BV at h ⊢;rw [aG] at h ⊢;intro s hs;have g:=of_decide_eq_true (h s hs);refine decide_eq_true ?_;have a:=Jq (ws:=ws) (x:=s.1) hr hq p;have b:=Jq (ws:=ws) (x:=s.1) hr hq 0;have d:=hd s hs;have m:=hm s hs;have e:∀ z,DN ws s.1 r z=max (z - r.2 * dst ws s.1 q.1) 0:=fun z=>by unfold DN; rw [rq]
 rw [e,e] at a b;generalize r.2 * dst ws s.1 q.1=D at *;generalize B8 ws s.1 Ar (BQ qs i p)=X at *;generalize B8 ws s.1 Ar (BQ qs i 0)=Y at *;generalize B8 ws s.1 Ar qs=Z at *;split at hp <;> lia
theorem K3 {ws:List AJ} {x:Str}:∀ {rs:List AY},(∀ r ∈ rs,0<=r.2 * dst ws x r.1)->B8 ws x rs (Fo rs)=0
 | [],_=>rfl
 | r :: rs,h=>by
  have ih:=K3 (ws:=ws) (x:=x) (rs:=rs) fun r' hr=>h r' (ZW _ hr)
  have d:=h r ae;show B8 ws x (r :: rs) ((r.1,0) :: Fo rs)=0
  rw [C6,ih];unfold DN;show max (0 - _) 0 + 0=(0:Int)
  lia
theorem Nb {ws:List AJ} {Ap Ar:List AY} {lv:Int} (hd:∀ s ∈ Ap,∀ r ∈ Ar,0<=r.2 * dst ws s.1 r.1) (h0:∀ s ∈ Ap,0<=s.2) (l0:0<=lv):BV ws Ap Ar (Fo Ar) lv=true:=by
 unfold BV;rw [aG];intro s hs;rw [K3 (hd s hs)];exact decide_eq_true (by have:=h0 s hs; lia)
theorem BU.lo {H:Hp} {A:Addr} {xs:List Str} {ws:List AJ} {y z:Str} (h:BU H A xs ws) (hy:y ∈ xs) (hz:z ∈ xs):0<=L2.dst ws z y:=by
 obtain ⟨M,c,md,hm⟩:=h;obtain ⟨n,e,d,n0,n1⟩:=hm y hy z hz;rw [d.symm.dst];exact n0
theorem O3 {qs:List AY} {i:Nat} {p B:Int} (h:∀ q ∈ qs,q.2 < B) (hp:p < B):∀ q ∈ BQ qs i p,q.2 < B:=fun q hq=>by
 unfold BQ at hq;rcases af.mp hq with z | z
 ·exact h q (cO z)
 ·rcases ZF.mp z with z | z
  ·rw [z]; exact hp
  ·exact h q (eL z)
theorem QE {rs:List AY}:∀ q ∈ Fo rs,q.2 < 2 ^ 400:=fun q hq=>by
 obtain ⟨r,_,rfl⟩:=ZO.mp hq;exact (by decide +kernel:(0:Int) < 2 ^ 400)
def Kg:Sp:=fun vs H Q _=>∃ (c m t A:Addr) (n:Nat) (xs:List Str) (ws:List AJ) (Ap Ar qs:List AY) (x:V) (d:PyData) (lv:Int) (i:Nat),vs=[.ref c,.ref A,.ref t,.int lv,.int i]/\CP H c m t n xs ws Ap Ar qs x d/\BU H A xs ws/\0<=lv/\lv<=1000/\i < qs.length /\
 ∀ (H':Hp) (T:Addr) (p:Int),Aq H H'->0<=p->p < 2 ^ 400->(BV ws Ap Ar qs lv=true->∀ p':Int,p'<=p->BV ws Ap Ar (BQ qs i p') lv=true)->CP H' c m T n xs ws Ap Ar (BQ qs i p) x d->Q (.ref T) H'
def Kh:Sp:=fun vs H Q _=>∃ (p c m A:Addr) (n:Nat) (xs:List Str) (ws:List AJ) (Ap Ar:List AY) (x:V) (d:PyData) (lv:Int),vs=[.ref p,.ref c,.ref A,.int lv]/\A6 H p/\Cc H c m n xs ws Ap Ar x d/\(∀ r ∈ Ar,r.2<=4)/\BU H A xs ws/\0<=lv/\lv<=1000 /\
 ∀ (H':Hp) (T:Addr) (qs:List AY),A6 H' p->A9 p H H'->CP H' c m T n xs ws Ap Ar qs x d->BV ws Ap Ar qs lv=true->(∀ q ∈ qs,q.2 < 2 ^ 400)->Q (.ref T) H'
end L2
namespace L2
open PySem PySem.Builtin.Str PySem.StrLaws
end L2
namespace L2
open PySem PySem.Spec PyProof.Rows PySem.NumText
end L2
namespace L2
open PySem PySem.Spec PyProof.Rows
theorem Jb {s:Str} (h:Bm s=true):s.length<=10:=by
 obtain ⟨_,l,_⟩:=RG h;lia
def MR (K:ZD) (H:Hp) (v:V):Prop:=∃ ty,D5 K H v ty/\bL K ty (.type "int")=some false
def TC (K:ZD) (H:Hp) (v:V) (b:Bool):Prop:=(∃ n:Int,v=.int n/\b=true)\/(b=false/\((∃ c,v=.bl c)\/MR K H v))
def KG (K:ZD) (H:Hp) (v:V) (l:Int) (b:Bool):Prop:=(∃ n:Int,v=.int n/\b=decide (l<=n))\/(b=false/\((∃ c,v=.bl c)\/MR K H v))
def Fz (K:ZD) (H:Hp) (v:V) (y:Str) (b:Bool):Prop:=(b=false/\MQ K H v)\/∃ (t:Addr) (us:List V),v=.ref t/\H t=some (.tup us)/\((us.length ≠ 2/\b=false)\/∃ a p,us=[a,p]/\((He K H a/\b=false)\/∃ s:Str,a=.str s/\s.length<=1000/\b=(Bm s && decide (s=y))))
def ET (K:ZD) (H:Hp) (v:V) (ys:List Str) (b:Bool):Prop:=(b=false/\MQ K H v)\/∃ (t:Addr) (us:List V),v=.ref t/\H t=some (.tup us)/\((us.length ≠ ys.length/\b=false)\/(us.length=ys.length/\∃ bs:List Bool,bs.length=us.length/\b=bs.all id/\∀ (i:Nat) u y c,us[i]? = some u->ys[i]? = some y->bs[i]? = some c->Fz K H u y c))
def J7 (K:ZD) (H:Hp) (v:V) (ys:List Str) (b:Bool):Prop:=(b=false/\ET K H v ys false)\/∃ (t:Addr) (us:List V),v=.ref t/\H t=some (.tup us)/\us.length=ys.length/\∃ bs:List Bool,bs.length=us.length/\b=bs.all id /\
 ∀ (i:Nat) u y c,us[i]? = some u->ys[i]? = some y->bs[i]? = some c->∃ (tt:Addr) (p:V),u=.ref tt/\H tt=some (.tup [.str y,p])/\KG K H p 0 c
def Hf (K:ZD) (H:Hp) (x:V) (v:V) (b:Bool):Prop:=(b=false/\KG K H v 0 false)\/∃ lv:Int,v=.int lv/\0<=lv/\b=(!decide (x=.non) || decide (lv=0))
theorem MR.same {K:ZD} {H H':Hp} {v:V} (h:MR K H v) (s:Aq H H'):MR K H' v:=let ⟨ty,a,b⟩:=h; ⟨ty,a.same s,b⟩
theorem MQ.same {K:ZD} {H H':Hp} {v:V} (h:MQ K H v) (s:Aq H H'):MQ K H' v:=let ⟨ty,a,b⟩:=h; ⟨ty,a.same s,b⟩
theorem He.same {K:ZD} {H H':Hp} {v:V} (h:He K H v) (s:Aq H H'):He K H' v:=let ⟨ty,a,b⟩:=h; ⟨ty,a.same s,b⟩
theorem KG.same {K:ZD} {H H':Hp} {v:V} {l:Int} {b:Bool} (h:KG K H v l b) (s:Aq H H'):KG K H' v l b:=by
 rcases h with h | ⟨h,h2 | h2⟩
 ·exact .inl h
 ·exact .inr ⟨h,.inl h2⟩
 ·exact .inr ⟨h,.inr (h2.same s)⟩
theorem Fz.same {K:ZD} {H H':Hp} {v:V} {y:Str} {b:Bool} (h:Fz K H v y b) (s:Aq H H'):Fz K H' v y b:=by
 rcases h with ⟨h,h2⟩ | ⟨t,us,e,ht,h | ⟨a,p,e2,⟨h,h2⟩ | h⟩⟩
 ·exact .inl ⟨h,h2.same s⟩
 ·exact .inr ⟨t,us,e,s _ _ ht,.inl h⟩
 ·exact .inr ⟨t,us,e,s _ _ ht,.inr ⟨a,p,e2,.inl ⟨h.same s,h2⟩⟩⟩
 ·exact .inr ⟨t,us,e,s _ _ ht,.inr ⟨a,p,e2,.inr h⟩⟩
theorem ET.same {K:ZD} {H H':Hp} {v:V} {ys:List Str} {b:Bool} (h:ET K H v ys b) (s:Aq H H'):ET K H' v ys b:=by
 rcases h with ⟨h,h2⟩ | ⟨t,us,e,ht,h | ⟨h,bs,bl,e2,r⟩⟩
 ·exact .inl ⟨h,h2.same s⟩
 ·exact .inr ⟨t,us,e,s _ _ ht,.inl h⟩
 ·exact .inr ⟨t,us,e,s _ _ ht,.inr ⟨h,bs,bl,e2,fun i u y c a1 a2 a3=>(r i u y c a1 a2 a3).same s⟩⟩
theorem Hf.same {K:ZD} {H H':Hp} {x v:V} {b:Bool} (h:Hf K H x v b) (s:Aq H H'):Hf K H' x v b:=by
 rcases h with ⟨h,h2⟩ | h
 ·exact .inl ⟨h,h2.same s⟩
 ·exact .inr h
theorem Fz.right {K:ZD} {H:Hp} {tt:Addr} {y:Str} {p:V} (n:Bm y=true) (h:H tt=some (.tup [.str y,p])):Fz K H (.ref tt) y true:=
 .inr ⟨tt,_,rfl,h,.inr ⟨_,_,rfl,.inr ⟨y,rfl,aj (Jb n) (by decide),by rw [n,decide_eq_true rfl]; rfl⟩⟩⟩
def LR (K:ZD):Sp:=fun vs H Q _=>∃ (v:V) (b:Bool),vs=[v]/\TC K H v b/\Q (.bl b) H
def Gy (K:ZD):Sp:=fun vs H Q _=>∃ (v:V) (l:Int) (b:Bool),vs=[v,.int l]/\KG K H v l b/\Q (.bl b) H
def QW (K:ZD):Sp:=fun vs H Q _=>∃ (v:V) (y:Str) (b:Bool),vs=[v,.str y]/\Fz K H v y b/\∀ H',Aq H H'->Q (.bl b) H'
def Om (K:ZD):Sp:=fun vs H Q _=>∃ (v:V) (L:Addr) (ys:List Str) (b:Bool),vs=[v,.ref L]/\H L=some (.lst (ys.map V.str))/\ys.length<=100/\ET K H v ys b/\∀ H',Aq H H'->Q (.bl b) H'
def KW (K:ZD):Sp:=fun vs H Q _=>∃ (c m:Addr) (n:Nat) (xs:List Str) (ws:List AJ) (Ap Ar:List AY) (x:V) (d:PyData) (v:V) (b:Bool),vs=[.ref c,v]/\Cc H c m n xs ws Ap Ar x d/\ET K H v (Ar.map (·.1)) b/\∀ H',Aq H H'->Q (.bl b) H'
def TV (K:ZD):Sp:=fun vs H Q _=>∃ (c m:Addr) (n:Nat) (xs:List Str) (ws:List AJ) (Ap Ar:List AY) (x:V) (d:PyData) (v:V) (b:Bool),vs=[.ref c,v]/\Cc H c m n xs ws Ap Ar x d/\J7 K H v (Ar.map (·.1)) b/\∀ H',Aq H H'->Q (.bl b) H'
def Oo (K:ZD):Sp:=fun vs H Q _=>∃ (c m:Addr) (n:Nat) (xs:List Str) (ws:List AJ) (Ap Ar:List AY) (x:V) (d:PyData) (v:V) (b:Bool),vs=[.ref c,v]/\Cc H c m n xs ws Ap Ar x d/\Hf K H x v b/\Q (.bl b) H
def LS (K:ZD):Sp:=fun vs H Q _=>∃ (c m:Addr) (n:Nat) (xs:List Str) (ws:List AJ) (Ap Ar:List AY) (x:V) (d:PyData) (v l:V),vs=[.ref c,v,l]/\Cc H c m n xs ws Ap Ar x d/\((J7 K H v (Ar.map (·.1)) false/\∀ H',Aq H H'->Q (.bl false) H') \/
 ∃ (t:Addr) (qs:List AY),v=.ref t/\CP H c m t n xs ws Ap Ar qs x d/\((Hf K H x l false/\∀ H',Aq H H'->Q (.bl false) H')\/∃ lv:Int,l=.int lv/\Hf K H x l true/\∀ H',Aq H H'->Q (.bl (BV ws Ap Ar qs lv)) H'))
theorem CP.prices {K:ZD} {H:Hp} {c m t:Addr} {n:Nat} {xs:List Str} {ws:List AJ} {Ap Ar qs:List AY} {x:V} {d:PyData} (h:CP H c m t n xs ws Ap Ar qs x d):J7 K H (.ref t) (Ar.map (·.1)) true:=by
 obtain ⟨us,ht,du⟩:=h.ex;have ul:=A3 du;have ql:=h.ok.len;refine .inr ⟨t,us,rfl,ht,by rw [ZA]; lia,us.map fun _=>true,by rw [ZA],by rw [bu]; exact (aG.mpr fun _ _=>rfl).symm,fun i u y c a1 a2 a3=>?_⟩;obtain ⟨q,tt,eq,rfl,htt⟩:=Bb du a1;rw [<-h.ok.nm,ZL,eq] at a2;cases a2
 rw [ZL,a1] at a3;cases a3
 exact ⟨tt,_,rfl,htt,.inl ⟨q.2,rfl,(decide_eq_true (h.ok.lo q (ZE eq))).symm⟩⟩
section
variable {prog:Program} {w:World} {A:Around} {E:Value->Shared->Prop} {s:Shared}
end
section
variable {prog:Program} {w:World} {A:Around} {E:Value->Shared->Prop} {s:Shared}
end
theorem Gn (K:ZD) {X:Cx} (h:X.K=K):Bn X (.builtin "isinstance") (fun xs H Q=>∃ x c t b,xs=[x,.ty c]/\D5 K H x t/\bL K t (.type c)=some b/\Q (.bl b) H):=by subst h; exact BF
def Iy (z:Str × Str):PyData:=.tuple [.str z.1,.str z.2]
theorem Fl {H:Hp} {us:List V} {zs:List (Str × Str)} {i:Nat} {u:V} (h:AE H us (zs.map Iy)) (e:us[i]? = some u):∃ z t,zs[i]? = some z/\u=.ref t/\H t=some (.tup [.str z.1,.str z.2]):=by
 obtain ⟨d,ed,dd⟩:=h.at e;rw [ZL] at ed;cases q:zs[i]? with
 | none=>rw [q] at ed; cases ed
 | some z=>
  rw [q] at ed;cases ed
  cases dd with
  | tup ht dx=>
   have:=AE.txt (ss:=[z.1,z.2]) dx;subst this;exact ⟨z,_,rfl,rfl,ht⟩
theorem LI {H:Hp} {t:Addr} {z:Str × Str} (h:H t=some (.tup [.str z.1,.str z.2])):FC H (.ref t) (Iy z):=.tup h (C7 H [z.1,z.2])
theorem EW {H H':Hp} (ht:∀ b xs,H b=some (.tup xs)->H' b=some (.tup xs)):∀ {zs:List (Str × Str)} {us:List V},AE H us (zs.map Iy)->AE H' us (zs.map Iy)
 | [],_,h=>by cases h; exact .nil
 | z :: zs,_,h=>by
  rw [ZS] at h;cases h with
  | cons a b=>
   cases a with
   | tup e dx=>
    have:=AE.txt (ss:=[z.1,z.2]) dx;subst this;exact .cons (LI (ht _ _ e)) (EW ht b)
theorem FI {H:Hp} {us:List V} {zs:List (Str × Str)} (h:AE H us (zs.map Iy)):us.length=zs.length:=by rw [h.len,ZA]
theorem datsS {H H':Hp} {us:List V} {ds:List PyData} (h:AE H us ds) (s:Aq H H'):AE H' us ds:=h.mono fun a o e _=>s a o e
noncomputable def Ef (ws:List AJ) (rs:List AY) (zs:List (Str × Str)):Int:=((rs.zip zs).map fun p=>p.1.2 * dst ws p.2.2 p.1.1).sum
theorem FJ {ws:List AJ} {rs:List AY} {zs:List (Str × Str)} {i:Nat} {r:AY} {z:Str × Str} (hr:rs[i]? = some r) (hz:zs[i]? = some z):((rs.zip zs).take (i + 1)).map (fun p=>p.1.2 * dst ws p.2.2 p.1.1)=((rs.zip zs).take i).map (fun p=>p.1.2 * dst ws p.2.2 p.1.1) ++ [r.2 * dst ws z.2 r.1]:=by
 have e:(rs.zip zs)[i]? = some (r,z):=by rw [bD]; exact ⟨hr,hz⟩
 rw [ZR,e,ZG];rfl
theorem HA {ws:List AJ} {ss:List Str}:∀ {rs:List AY} {zs:List (Str × Str)} {ds:List Int},zs.length=rs.length->Si ws ss rs ds->(∀ r ∈ rs,0<=r.2)->(∀ z ∈ zs,z.2 ∈ ss)->(∀ r ∈ rs,∀ s ∈ ss,Bl ws s r.1 (dst ws s r.1))->BW rs ds<=Ef ws rs zs
 | [],[],ds,_,_,_,_,_=>by unfold BW Ef; simp
 | r :: rs,z :: zs,[],_,h,_,_,_=>absurd h.1 (by simp)
 | r :: rs,z :: zs,d :: ds,hl,h,lo,hz,hw=>by
  have ih:=HA (ws:=ws) (ss:=ss) (rs:=rs) (zs:=zs) (ds:=ds) (by simpa using hl) ⟨by simpa using h.1,fun i r' d' e1 e2=>h.2 (i + 1) r' d' e1 e2⟩ (fun r' hr=>lo r' (ZW _ hr)) (fun z' MW=>hz z' (ZW _ MW)) (fun r' hr=>hw r' (ZW _ hr));have low:=(h.2 0 r d rfl rfl).2 z.2 (hz z ae) _ (hw r ae z.2 (hz z ae));have m:=Int.mul_le_mul_of_nonneg_left low (lo r ae);have e1:BW (r :: rs) (d :: ds)=r.2 * d + BW rs ds:=by unfold BW; rw [bI,ZS,aI]
  have e2:Ef ws (r :: rs) (z :: zs)=r.2 * dst ws z.2 r.1 + Ef ws rs zs:=by unfold Ef; rw [bI,ZS,aI]
  rw [e1,e2];lia
structure Na (H:Hp) (c m pp o t T:Addr) (n:Nat) (xs:List Str) (ws:List AJ) (Ap Ar:List AY) (x:V) (d:PyData) (ss:List Str) (zs:List (Str × Str)) (qs:List AY) (lv:Int):Prop where
 cp:CP H c m T n xs ws Ap Ar qs x d
 pap:H pp=some (.tup [.ref o,.ref t,.ref T,.int lv])
 op:H o=some (.tup (ss.map V.str))
 ne:ss ≠ []
 ri:Ey ss
 sub:∀ s ∈ ss,s ∈ Ap.map (·.1)
 lb:Gb x ss.length=true
 wk:∃ us,H t=some (.tup us)/\AE H us (zs.map Iy)
 zn:zs.map (·.1)=Ar.map (·.1)
 zs':∀ z ∈ zs,z.2 ∈ ss
 lev:NZ x lv
 st:BV ws Ap Ar qs lv=true
theorem Na.same {H H':Hp} {c m pp o t T:Addr} {n:Nat} {xs:List Str} {ws:List AJ} {Ap Ar:List AY} {x:V} {d:PyData} {ss:List Str} {zs:List (Str × Str)} {qs:List AY} {lv:Int} (h:Na H c m pp o t T n xs ws Ap Ar x d ss zs qs lv) (s:Aq H H'):Na H' c m pp o t T n xs ws Ap Ar x d ss zs qs lv:=by
 obtain ⟨us,a,b⟩:=h.wk;exact ⟨h.cp.same s,s _ _ h.pap,s _ _ h.op,h.ne,h.ri,h.sub,h.lb,⟨us,s _ _ a,datsS b s⟩,h.zn,h.zs',h.lev,h.st⟩
theorem Na.opn {H:Hp} {c m pp o t T:Addr} {n:Nat} {xs:List Str} {ws:List AJ} {Ap Ar:List AY} {x:V} {d:PyData} {ss:List Str} {zs:List (Str × Str)} {qs:List AY} {lv:Int} (h:Na H c m pp o t T n xs ws Ap Ar x d ss zs qs lv):Opn (Ap.map (·.1)) ss:=⟨h.ne,h.ri.nodup,h.sub⟩
theorem Na.l10 {H:Hp} {c m pp o t T:Addr} {n:Nat} {xs:List Str} {ws:List AJ} {Ap Ar:List AY} {x:V} {d:PyData} {ss:List Str} {zs:List (Str × Str)} {qs:List AY} {lv:Int} (h:Na H c m pp o t T n xs ws Ap Ar x d ss zs qs lv):ss.length<=Ap.length:=by
 have:=List.Nodup.length_le_of_subset h.ri.nodup h.sub;rwa [ZA] at this
theorem Na.inx {H:Hp} {c m pp o t T:Addr} {n:Nat} {xs:List Str} {ws:List AJ} {Ap Ar:List AY} {x:V} {d:PyData} {ss:List Str} {zs:List (Str × Str)} {qs:List AY} {lv:Int} (h:Na H c m pp o t T n xs ws Ap Ar x d ss zs qs lv):∀ s ∈ ss,s ∈ xs/\Bm s=true:=fun s hs=>by
 obtain ⟨r,hr,e⟩:=ZO.mp (h.sub s hs);have e':r.1=s:=e;have:=h.cp.cw.ok1.sub r hr;rw [e'] at this;exact ⟨this,h.cp.cw.map.at'.nm _ this⟩
theorem Na.zl {H:Hp} {c m pp o t T:Addr} {n:Nat} {xs:List Str} {ws:List AJ} {Ap Ar:List AY} {x:V} {d:PyData} {ss:List Str} {zs:List (Str × Str)} {qs:List AY} {lv:Int} (h:Na H c m pp o t T n xs ws Ap Ar x d ss zs qs lv):zs.length=Ar.length:=by
 have:=congrArg b9 h.zn;rwa [ZA,ZA] at this
theorem QC {zs:List (Str × Str)} {rs:List AY} (h:zs.map (·.1)=rs.map (·.1)) {i:Nat} {z:Str × Str} (e:zs[i]? = some z):∃ r,rs[i]? = some r/\r.1=z.1:=by
 have:=congrArg (fun l=>l[i]?) h;rw [ZL,ZL,e] at this;cases q:rs[i]? with
 | none=>rw [q] at this; cases this
 | some r=>rw [q] at this; exact ⟨r,rfl,(ZZ.inj this).symm⟩
def Ot (K:ZD):Sp:=fun vs H Q _=>∃ (c o:Addr) (sites ss:List Str) (x:V) (d:PyData),vs=[.ref c,.ref o]/\OR H c sites x d/\H o=some (.tup (ss.map V.str))/\ss ≠ []/\Ey ss/\(∀ s ∈ ss,Bm s=true/\s ∈ sites)/\Gb x ss.length=true/\∀ H',Aq H H'->Q (.bl true) H'
def TX:Sp:=fun vs H Q _=>∃ (c m pp o t T:Addr) (n:Nat) (xs:List Str) (ws:List AJ) (Ap Ar:List AY) (x:V) (d:PyData) (ss:List Str) (zs:List (Str × Str)) (qs:List AY) (lv:Int),vs=[.ref c,.ref o,.ref t]/\Na H c m pp o t T n xs ws Ap Ar x d ss zs qs lv/\∀ H',Aq H H'->Q (.bl true) H'
def Rb:Sp:=fun vs H Q _=>∃ (c m pp o t T:Addr) (n:Nat) (xs:List Str) (ws:List AJ) (Ap Ar:List AY) (x:V) (d:PyData) (ss:List Str) (zs:List (Str × Str)) (qs:List AY) (lv:Int),vs=[.ref c,.ref pp]/\Na H c m pp o t T n xs ws Ap Ar x d ss zs qs lv/\∀ H',Aq H H'->Q (.bl true) H'
def QV:Sp:=fun vs H Q _=>∃ (c m pp o t T:Addr) (n:Nat) (xs:List Str) (ws:List AJ) (Ap Ar:List AY) (x:V) (d:PyData) (ss:List Str) (zs:List (Str × Str)) (qs:List AY) (lv:Int),vs=[.ref c,.ref pp]/\Na H c m pp o t T n xs ws Ap Ar x d ss zs qs lv /\
 ∀ (H':Hp) (S:Addr),Aq H H'->H' S=some (.tup [.int (Qc x qs lv),.int ((ss.map (BI Ap)).sum + Ef ws Ar zs)])->Q (.ref S) H'
def LW:Sp:=fun vs H Q _=>∃ (p c m A:Addr) (n:Nat) (xs:List Str) (ws:List AJ) (Ap Ar:List AY) (x:V) (d:PyData),vs=[.ref p,.ref c,.ref A]/\A6 H p/\Cc H c m n xs ws Ap Ar x d/\(∀ r ∈ Ar,r.2<=4)/\BU H A xs ws /\
 ∀ (H':Hp) (pp o t T:Addr) (ss:List Str) (zs:List (Str × Str)) (qs:List AY) (lv:Int),A6 H' p->A9 p H H'->Na H' c m pp o t T n xs ws Ap Ar x d ss zs qs lv->Q (.ref pp) H'
def LV:Sp:=fun vs H Q _=>∃ (c m pp o t T A:Addr) (n:Nat) (xs:List Str) (ws:List AJ) (Ap Ar:List AY) (x:V) (d:PyData) (ss:List Str) (zs:List (Str × Str)) (qs:List AY) (lv:Int),vs=[.ref c,.ref A,.ref pp]/\Na H c m pp o t T n xs ws Ap Ar x d ss zs qs lv/\BU H A xs ws/\∀ H',Aq H H'->Q (.bl true) H'
end L2
namespace K23
open PySem L2
def top (i:Nat):Stmt:=PySem.Challenge.pw_openhouses_k23_whole_the_best_lies_betwe.main.body.getD i (.Pass ⟨0,0,0,0⟩)
abbrev Di:Stmt:=top 2
theorem Nm:A2 ["thing"] ["thing"] (An Di):=⟨rfl,rfl,rfl,by decide +kernel,rfl,by decide +kernel,by decide +kernel⟩
abbrev CV:Stmt:=top 3
theorem Fu:A2 ["things"] ["things"] (An CV):=⟨rfl,rfl,rfl,by decide +kernel,rfl,by decide +kernel,by decide +kernel⟩
abbrev Em:Stmt:=top 5
theorem Hn:A2 ["thing"] ["thing"] (An Em):=⟨rfl,rfl,rfl,by decide +kernel,rfl,by decide +kernel,by decide +kernel⟩
abbrev BK:Stmt:=top 6
theorem DT:A2 ["thing","least"] ["thing","least"] (An BK):=⟨rfl,rfl,rfl,by decide +kernel,rfl,by decide +kernel,by decide +kernel⟩
abbrev CQ:Stmt:=top 8
theorem Fp:A2 ["web","places","ways","beside","one","other","length"] ["web"] (An CQ):=⟨rfl,rfl,rfl,by decide +kernel,rfl,by decide +kernel,by decide +kernel⟩
abbrev Ld:Stmt:=top 10
theorem O0:A2 ["web","place","told"] ["web","place"] (An Ld):=⟨rfl,rfl,rfl,by decide +kernel,rfl,by decide +kernel,by decide +kernel⟩
abbrev CC:Stmt:=top 11
theorem FO:A2 ["case"] ["case"] (An CC):=⟨rfl,rfl,rfl,by decide +kernel,rfl,by decide +kernel,by decide +kernel⟩
abbrev Fb:Stmt:=top 12
theorem IF:A2 ["web","starts","beside","reached","settled","so_far","start","here","name","by_here"] ["web","starts"] (An Fb):=⟨rfl,rfl,rfl,by decide +kernel,rfl,by decide +kernel,by decide +kernel⟩
abbrev C9:Stmt:=top 14
theorem EF:A2 ["case","opening","costs"] ["case","opening"] (An C9):=⟨rfl,rfl,rfl,by decide +kernel,rfl,by decide +kernel,by decide +kernel⟩
abbrev CU:Stmt:=top 16
theorem Ft:A2 ["case","thing","sites"] ["case","thing"] (An CU):=⟨rfl,rfl,rfl,by decide +kernel,rfl,by decide +kernel,by decide +kernel⟩
abbrev C8:Stmt:=top 17
theorem ED:A2 ["case","web","sites","folk","limit"] ["case"] (An C8):=⟨rfl,rfl,rfl,by decide +kernel,rfl,by decide +kernel,by decide +kernel⟩
abbrev BL:Stmt:=top 19
theorem DU:A2 ["case","thing"] ["case","thing"] (An BL):=⟨rfl,rfl,rfl,by decide +kernel,rfl,by decide +kernel,by decide +kernel⟩
abbrev En:Stmt:=top 20
theorem Ho:A2 ["thing","places"] ["thing","places"] (An En):=⟨rfl,rfl,rfl,by decide +kernel,rfl,by decide +kernel,by decide +kernel⟩
abbrev DB:Stmt:=top 21
theorem FT:A2 ["row","place"] ["row","place"] (An DB):=⟨rfl,rfl,rfl,by decide +kernel,rfl,by decide +kernel,by decide +kernel⟩
abbrev DC:Stmt:=top 23
theorem FU:A2 ["case","prices","away","manys"] ["case","prices","away"] (An DC):=⟨rfl,rfl,rfl,by decide +kernel,rfl,by decide +kernel,by decide +kernel⟩
abbrev Ic:Stmt:=top 24
theorem Mb:A2 ["case","prices","levy"] ["case","prices","levy"] (An Ic):=⟨rfl,rfl,rfl,by decide +kernel,rfl,by decide +kernel,by decide +kernel⟩
abbrev Eh:Stmt:=top 25
theorem Hg:A2 ["case","aways","prices","levy"] ["case","aways","prices","levy"] (An Eh):=⟨rfl,rfl,rfl,by decide +kernel,rfl,by decide +kernel,by decide +kernel⟩
abbrev O1:Stmt:=top 26
theorem Rm:A2 ["case","prices","levy","limit","total"] ["case","prices","levy"] (An O1):=⟨rfl,rfl,rfl,by decide +kernel,rfl,by decide +kernel,by decide +kernel⟩
abbrev CW:Stmt:=top 27
theorem Fv:A2 ["case","thing"] ["case","thing"] (An CW):=⟨rfl,rfl,rfl,by decide +kernel,rfl,by decide +kernel,by decide +kernel⟩
abbrev Ff:Stmt:=top 28
theorem IJ:A2 ["case","thing"] ["case","thing"] (An Ff):=⟨rfl,rfl,rfl,by decide +kernel,rfl,by decide +kernel,by decide +kernel⟩
abbrev Fc:Stmt:=top 30
theorem IG:A2 ["case","paper","opening","ways","prices","levy"] ["case","paper"] (An Fc):=⟨rfl,rfl,rfl,by decide +kernel,rfl,by decide +kernel,by decide +kernel⟩
abbrev CY:Stmt:=top 31
theorem Fw:A2 ["case","opening","thing"] ["case","opening","thing"] (An CY):=⟨rfl,rfl,rfl,by decide +kernel,rfl,by decide +kernel,by decide +kernel⟩
abbrev Lc:Stmt:=top 32
theorem Oz:A2 ["case","paper","opening","ways","prices","levy","manys","aways","high"] ["case","paper"] (An Lc):=⟨rfl,rfl,rfl,by decide +kernel,rfl,by decide +kernel,by decide +kernel⟩
abbrev Fd:Stmt:=top 34
theorem IH:A2 ["_law_script","_law_k","_law_cell"] ["_law_script","_law_k"] (An Fd):=⟨rfl,rfl,rfl,by decide +kernel,rfl,by decide +kernel,by decide +kernel⟩
abbrev Bv:Stmt:=top 35
theorem Hh:A2 ["_law_pen_here","_law_many","_law_digit","_law_number"] ["_law_pen_here","_law_many"] (An Bv):=⟨rfl,rfl,rfl,by decide +kernel,rfl,by decide +kernel,by decide +kernel⟩
abbrev DA:Stmt:=top 36
theorem FR:A2 ["_law_pen_here","_law_many","_law_letters","_law_base","_law_at","_law_first","_law_step","_law_more","_law_found","_law_k","_law_sign"] ["_law_pen_here","_law_many"] (An DA):=⟨rfl,rfl,rfl,by decide +kernel,rfl,by decide +kernel,by decide +kernel⟩
abbrev Ce:Stmt:=top 37
theorem EE:A2 ["_law_pen_here","_law_names_here","_law_kind","_law_size","_law_pairs","_law_k","_law_other","_law_one"] ["_law_pen_here","_law_names_here","_law_kind"] (An Ce):=⟨rfl,rfl,rfl,by decide +kernel,rfl,by decide +kernel,by decide +kernel⟩
abbrev Dq:Stmt:=top 38
theorem Hi:A2 ["_law_pen_here","_law_names_here","_law_most","_law_pool"] ["_law_pen_here","_law_names_here","_law_most"] (An Dq):=⟨rfl,rfl,rfl,by decide +kernel,rfl,by decide +kernel,by decide +kernel⟩
abbrev El:Stmt:=top 39
theorem Hm:A2 ["_law_pen_here","_law_kind","_law_wide","_law_names_here","_law_much","_law_ways_here","_law_dear","_law_sites","_law_folk","_law_limit"] ["_law_pen_here","_law_kind"] (An El):=⟨rfl,rfl,rfl,by decide +kernel,rfl,by decide +kernel,by decide +kernel⟩
abbrev Ej:Stmt:=top 40
theorem Hk:A2 ["_law_case_here","_law_places","_law_ways_here","_law_away","_law_one","_law_other","_law_length","_law_by","_law_both"] ["_law_case_here"] (An Ej):=⟨rfl,rfl,rfl,by decide +kernel,rfl,by decide +kernel,by decide +kernel⟩
abbrev Ek:Stmt:=top 41
theorem Hl:A2 ["_law_case_here","_law_away","_law_opening","_law_found","_law_place","_law_many"] ["_law_case_here","_law_away","_law_opening"] (An Ek):=⟨rfl,rfl,rfl,by decide +kernel,rfl,by decide +kernel,by decide +kernel⟩
abbrev Cq:Stmt:=top 42
theorem E3:A2 ["_law_case_here","_law_found","_law_place","_law_dues","_law_most"] ["_law_case_here"] (An Cq):=⟨rfl,rfl,rfl,by decide +kernel,rfl,by decide +kernel,by decide +kernel⟩
abbrev Ei:Stmt:=top 44
theorem Hj:A2 ["_law_case_here","_law_away","_law_prices_here","_law_site","_law_found","_law_place","_law_many"] ["_law_case_here","_law_away","_law_prices_here","_law_site"] (An Ei):=⟨rfl,rfl,rfl,by decide +kernel,rfl,by decide +kernel,by decide +kernel⟩
abbrev Fe:Stmt:=top 45
theorem II:A2 ["_law_case_here","_law_prices_here","_law_levy","_law_found"] ["_law_case_here","_law_prices_here","_law_levy"] (An Fe):=⟨rfl,rfl,rfl,by decide +kernel,rfl,by decide +kernel,by decide +kernel⟩
abbrev CS:Stmt:=top 47
theorem Fq:A2 ["_law_case_here","_law_away","_law_prices_here","_law_levy","_law_at","_law_place","_law_price","_law_many","_law_others","_law_some_here","_law_site","_law_dues"] ["_law_case_here","_law_away","_law_prices_here","_law_levy","_law_at"] (An CS):=⟨rfl,rfl,rfl,by decide +kernel,rfl,by decide +kernel,by decide +kernel⟩
abbrev CT:Stmt:=top 48
theorem Fs:A2 ["_law_pen_here","_law_case_here","_law_away","_law_levy","_law_prices_here","_law_order","_law_k","_law_at","_law_full","_law_some_here"] ["_law_pen_here","_law_case_here","_law_away","_law_levy"] (An CT):=⟨rfl,rfl,rfl,by decide +kernel,rfl,by decide +kernel,by decide +kernel⟩
abbrev D9:Stmt:=top 49
theorem FQ:A2 ["_law_pen_here","_law_case_here","_law_away","_law_sites","_law_most","_law_opening","_law_near","_law_walks","_law_place","_law_many","_law_house","_law_levy"] ["_law_pen_here","_law_case_here","_law_away"] (An D9):=⟨rfl,rfl,rfl,by decide +kernel,rfl,by decide +kernel,by decide +kernel⟩
abbrev D8:Stmt:=top 50
theorem FP:A2 ["_law_case_here","_law_away","_law_paper_here","_law_opening","_law_walks","_law_prices_here","_law_levy","_law_told","_law_high","_law_row","_law_own"] ["_law_case_here","_law_away","_law_paper_here"] (An D8):=⟨rfl,rfl,rfl,by decide +kernel,rfl,by decide +kernel,by decide +kernel⟩
abbrev Ro:Stmt:=top 51
theorem Rn:A2 ["_law_script","_law_k","_law_pen_here","_law_case_here","_law_away","_law_turn"] ["_law_script"] (An Ro):=⟨rfl,rfl,rfl,by decide +kernel,rfl,by decide +kernel,by decide +kernel⟩
section
variable {P:Program} {w:World} {K:ZD} {mg:Str->Option Value} {base:Heap}
theorem N1 (h_abs:mg "abs"=none) (h_len:mg "len"=none) {f:Addr} {fd:FuncData} (F:Dm K "_law_pen" "_law_pen" Fd f fd):A8 P w K mg base Bt 1 f fd ["_law_script","_law_k"] (QX K):=by
 refine F.ok IH (fun vs H Q E h=>?_) (fun cdv A outer s H vs Q E hr h=>?_)
 ·obtain ⟨a,ns,k,rfl,_⟩:=h;rfl
 ·obtain ⟨a,ns,k,rfl,hS,k0,q⟩:=h;have nd:=IH.nd;have big:100000 < sizeLine:=by decide
  refine ⟨_,(Af (Ao (i:=2) nd rfl (Or.inl rfl) (As Bg (As BG Ag (pv 1)) Ag))
  (Af (Cr (By O8 (pv 1) (Ak AI (by rfl) h_len PySem.boot_len (Aa (pv 0) Ac)) (Bx _))
  (Al (Ao (i:=2) nd rfl (Or.inl rfl) (Az Bf (pv 0) (pv 1) (fun _ _=>rfl))))
  Bo)
  (Af (Cr (By Uh (Ak MM (by rfl) h_abs PyProof.Rows.boot_abs (Aa (pv 2) Ac)) (As Nw Ag Ag) (Bx _))
  (Al (A4 (Bw (Aa (Ak MM (by rfl) h_abs PyProof.Rows.boot_abs (Aa (pv 2) Ac)) (Aa Ag (Aa (pv 1) Ac))))))
  Bo)
  (Al (A4 (Bw (Aa (As Bg (As EL (pv 2) Ag) (As BG Ag (pv 1))) (Aa Ag (Aa (pv 1) Ac))))))))),?_⟩
  have WR:=hS.sq;exists _,rfl,_,_,rfl,rfl,.inl ⟨by decide,by decide⟩,_,_,rfl,rfl;exists _,rfl,_,rfl,a,_,rfl,.inl WR,_,_,rfl,rfl,_,rfl;refine CL (fun BD=>?_) (fun _=>?_)
  ·rw [decide_eq_true_eq,ZA] at BD;obtain ⟨c,hc⟩:=Sf (ns:=ns) (i:=k) k0 BD;exists _,rfl,_,rfl,a,_,_,_,rfl,rfl,WR,hc;exists _,rfl,_,rfl,_,_,rfl,rfl,⟨by decide,by decide,by decide⟩,_,_,rfl,rfl,_,rfl;refine CL (fun _=>?_) (fun _=>?_)
   ·exact ⟨_,rfl,_,rfl,_,rfl,(by show 3<=sizeLine; decide),fun p hp=>q p _ _ _ hp⟩
   ·exact ⟨_,rfl,_,_,rfl,rfl,(by show (0:Int) < 2147483629; decide),_,rfl,_,_,rfl,rfl,.inl ⟨by decide,by decide⟩,_,_,rfl,rfl,_,rfl,(by show 3<=sizeLine; decide),fun p hp=>q p _ _ _ hp⟩
  ·exists _,rfl,_,rfl,_,_,rfl,rfl,⟨by decide,by decide,by decide⟩,_,_,rfl,rfl,_,rfl;refine CL (fun _=>?_) (fun _=>?_)
   ·exact ⟨_,rfl,_,rfl,_,rfl,(by show 3<=sizeLine; decide),fun p hp=>q p _ _ _ hp⟩
   ·exact ⟨_,rfl,_,_,rfl,rfl,(by show (0:Int) < 2147483629; decide),_,rfl,_,_,rfl,rfl,.inl ⟨by decide,by decide⟩,_,_,rfl,rfl,_,rfl,(by show 3<=sizeLine; decide),fun p hp=>q p _ _ _ hp⟩
theorem BE  {f:Addr} {fd:FuncData} (F:Dm K "_law_take" "_law_take" Bv f fd):A8 P w K mg base Bt 1 f fd ["_law_pen_here","_law_many"] CO:=by
 refine F.ok Hh (fun vs H Q E h=>?_) (fun cdv A outer s H vs Q E hr h=>?_)
 ·obtain ⟨p,m,rfl,_⟩:=h;rfl
 ·obtain ⟨p,m,rfl,⟨a,b,c,hp⟩,hm,V1,k⟩:=h;have nd:=Hh.nd;have big:100000 < sizeLine:=by decide
  refine ⟨_,(Af (Cr (By Hu (Az Bf (pv 0) Ag (fun _ _=>rfl)) Ag (Bx _))
  (Af (Ao (i:=2) nd rfl (Or.inl rfl) (As EL (Az Bf (pv 0) Ag (fun _ _=>rfl)) (pv 1)))
  (Af (Dr (As Mo (Az Bf (pv 0) Ag (fun _ _=>rfl)) (pv 1)) (Nu (pv 0) Ag IE))
  (Al (A4 (pv 2)))))
  Bo)
  (Af (Dr (As Bg (Az Bf (pv 0) Ag (fun _ _=>rfl)) Ag) (Nu (pv 0) Ag IE))
  (Af (Ao (i:=3) nd rfl (Or.inl rfl) (As EL (As Bg (As Bg (As BG (Az Bf (pv 0) Ag (fun _ _=>rfl)) Ag) (As BG Ag (Az Bf (pv 0) Ag (fun _ _=>rfl)))) Ag) Ag))
  (Af (Dr (As EL (As Bg (As Bg (As BG (pv 3) (As Bg (As EL (pv 3) Ag) Ag)) (As BG Ag (Az Bf (pv 0) Ag (fun _ _=>rfl)))) Ag) Ag) (Nu (pv 0) Ag IE))
  (Al (A4 (As EL (As Mo (Az Bf (pv 0) Ag (fun _ _=>rfl)) Ag) (pv 1)))))))),?_⟩
  have sq:∀ {H':Hp} {a b c:Int},H' p=some (.lst (A1 a b c))->AZ K H' p (A1 a b c):=fun h=>.inl (.inl h)
  exists _,rfl,p,_,_,_,rfl,rfl,sq hp,Ve _ _ _,rfl,_,rfl;refine CL (fun _=>?_) (fun _=>?_)
  ·exists _,rfl,p,_,_,_,rfl,rfl,sq hp,Lk _ _ _,_,rfl,_,_,rfl,rfl,hm;exists _,rfl,p,_,_,_,rfl,rfl,sq hp,Lk _ _ _,_,rfl,_,_,rfl,rfl,⟨hm,V1⟩,_,rfl,p,_,_,0,rfl,rfl,hp,rfl,_,rfl;exact k _ _ _ _ (bK _ (by lia)) (cg _ hm)
  ·exists _,rfl,p,_,_,_,rfl,rfl,sq hp,Nv _ _ _,_,_,rfl,rfl,_,rfl,p,_,_,2,rfl,rfl,hp,rfl;have XZ:(upd H p (.lst (A1 a b (c + 1)))) p=some (.lst (A1 a b (c + 1))):=Ab;exists _,rfl,p,_,_,_,rfl,rfl,sq XZ,Lk _ _ _,_,_,rfl,rfl,.inr ⟨by decide,by decide⟩,_,rfl,p,_,_,_,rfl,rfl,sq XZ,Nv _ _ _,_,_,rfl,rfl,.inl ⟨by decide,by decide⟩,_,_,rfl,rfl,_,_,rfl,rfl,_,_,rfl,rfl,(by show (0:Int) < 2147483647; decide)
   have h0:0<=(a * 48271 + 30011 * (c + 1) + 977) % 2147483647:=bK _ (by decide);have h1:(a * 48271 + 30011 * (c + 1) + 977) % 2147483647 < 2147483647:=cg _ (by decide);exists _,rfl,_,rfl,_,_,rfl,rfl,(by show (0:Int) < 65521; decide),_,_,rfl,rfl,_,_,rfl,rfl,.inl ⟨Int.lt_of_lt_of_le (b:=0) (by decide) h0,Int.lt_trans h1 (by decide)⟩,_,rfl,p,_,_,_,rfl,rfl,sq XZ,Nv _ _ _,_,_,rfl,rfl,.inl ⟨by decide,by decide⟩,_,_,rfl,rfl,_,_,rfl,rfl,_,_,rfl,rfl,(by show (0:Int) < 2147483587; decide),_,rfl,p,_,_,0,rfl,rfl,XZ,rfl;exists _,rfl,p,_,_,_,rfl,rfl,sq Ab,Lk _ _ _,_,_,rfl,rfl,⟨by decide,by decide⟩,_,rfl,_,_,rfl,rfl,hm;rw [FK];exact k _ _ _ _ (bK _ (by lia)) (cg _ hm)
end
section
variable {P:Program} {w:World} {K:ZD} {mg:Str->Option Value} {base:Heap}
theorem Hv (h_len:mg "len"=none) (h_list:mg "list"=none) (h_min:mg "min"=none) (h_range:mg "range"=none) {fT:Addr} {fdT:FuncData} (XT:Fn K mg "_law_take" Bv ["_law_pen_here","_law_many"] fT fdT) (GT:A8 P w K mg base Bt 1 fT fdT ["_law_pen_here","_law_many"] CO) {f:Addr} {fd:FuncData} (F:Dm K "_law_some" "_law_some" Dq f fd):A8 P w K mg base Bt 2 f fd ["_law_pen_here","_law_names_here","_law_most"] KR:=by
 refine F.ok Hi (fun vs H Q E h=>?_) (fun cdv A outer s H vs Q E hr h=>?_)
 ·obtain ⟨p,e,xs,most,rfl,_⟩:=h;rfl
 ·obtain ⟨p,e,xs,most,rfl,P0,he,nep,x1,x30,m1,m30,k⟩:=h;have nd:=Hi.nd;have big:100000 < sizeLine:=by decide
  refine ⟨_,(Af (Ao (i:=3) nd rfl (Or.inr rfl) (AA Gk (by rfl) h_list PyProof.Rows.boot_list (Aa (pv 1) Ac)))
  (Al (A4 (AS (N:=["_law_k","_law_pen_here","_law_pool"]) (σ0:=fun σ=>[none,some 0,some 3].map fun j=>j.bind fun j=>(σ[j]?).join) rfl (AD.caught (by rfl) (by decide +kernel) rfl (by decide +kernel) (by intro y hy; simp only [ZF,ZI,or_false] at hy; rcases hy with rfl | rfl <;> rfl)
   (by intro y hy e; simp only [ZF,ZI,or_false] at hy; rcases hy with rfl | rfl | rfl | rfl | rfl | rfl <;> first | exact ⟨_,rfl⟩ | cases e)) (fun σ _=>Ba.of [none,some 0,some 3] rfl (by
   intro i j x h1 h2;match i,h1,h2 with
   | 0,_,h2=>cases h2
   | 1,h1,h2=>cases h1; cases h2; exact ⟨rfl,.inl rfl,.inl rfl⟩
   | 2,h1,h2=>cases h1; cases h2; exact ⟨rfl,.inl rfl,.inl rfl⟩
   | n + 3,h1,_=>cases h1)) (C0 (by rfl) h_range (Aa (Ak (GZ rfl) (by rfl) h_min PyProof.Rows.boot_min (Aa (Ak AI (by rfl) h_len PySem.boot_len (Aa (pv 1) Ac)) (Aa (As Bg Ag (Am GT (hr.mono (by decide)) (by rfl) XT.mg XT.F.kp XT.b .nil Ax (Aa (pv 0) (Aa (pv 2) Ac)))) Ac))) Ac))
   (fun s2 H C fp=>⟨(Ai (i:=0) (show (["_law_k","_law_pen_here","_law_pool"]:List Str).Nodup by decide +kernel) rfl (Or.inl rfl)),AQ,(Vh K rfl PySem.F.plainAttrs_list PySem.F.slot_list_pop PySem.F.type_list_pop M4 (pv 2) (Aa (Am GT (hr.mono (by decide)) (by rfl) XT.mg XT.F.kp XT.b .nil Ax (Aa (pv 1) (Aa (Ak (B7 K rfl) (by rfl) h_len PySem.boot_len (Aa (pv 2) Ac)) Ac))) Ac))⟩))))),?_⟩
  refine ⟨_,rfl,e,_,rfl,.inl (AZ.of he),fun PL hPL=>?_⟩;have s0:=Ad (o:=.lst (xs.map V.str)) hPL;have nPL:PL ≠ p:=P0.ne hPL;have P1:A6 (upd H PL (.lst (xs.map V.str))) p:=P0.other nPL;have hPP:(upd H PL (.lst (xs.map V.str))) PL=some (.lst (xs.map V.str)):=Ab;generalize upd H PL (.lst (xs.map V.str))=H1 at s0 P1 hPP;refine ⟨_,rfl,e,_,rfl,.inl (AZ.of (s0 _ _ he)),_,rfl,_,rfl,p,most,rfl,P1,by lia,by lia,fun d a b c d0 d1=>⟨_,_,rfl,rfl,_,_,rfl,_,rfl,?_,?_,?_⟩⟩
  ·split <;> lia
  ·split <;> lia
  rw [ZA];obtain ⟨n,en,n1,nm,nx⟩:∃ n:Nat,(if (1 + d) < (xs.length:Int) then (1 + d) else (xs.length:Int)).toNat=n/\1<=n/\(n:Int)<=most/\n<=xs.length:=by
   refine ⟨_,rfl,?_,?_,?_⟩ <;> (split <;> lia)
  rw [en];have P2:A6 (upd H1 p (.lst (A1 a b c))) p:=A6.set a b c;have Yh:(upd H1 p (.lst (A1 a b c))) PL=some (.lst (xs.map V.str)):=by rw [Ae nPL]; exact hPP
  have k2:∀ b' o,b' ≠ p->b' ≠ PL->H b'=some o->(upd H1 p (.lst (A1 a b c))) b'=some o:=fun b' o hb _ z=>by rw [Ae hb]; exact s0 _ _ z
  have fr:∀ D,(upd H1 p (.lst (A1 a b c))) D=none->H D=none:=fun D hD=>by
   have nD:=P2.ne hD;rw [Ae nD] at hD;cases z:H D with
   | none=>rfl
   | some o=>rw [s0 _ _ z] at hD; cases hD
  generalize upd H1 p (.lst (A1 a b c))=H2 at P2 Yh k2 fr;refine Mc (n:=n) (fun D i σ H' acc=>∃ (v0:Option V) (ys left:List Str),σ=[v0,some (.ref p),some (.ref PL)]/\A6 H' p/\(∀ b o,b ≠ p->b ≠ PL->H b=some o->H' b=some o)/\H' PL=some (.lst (left.map V.str))/\H' D=some (.lst acc)/\acc=ys.map V.str/\acc.length=i/\(ys ++ left).Perm xs)
   (by lia) (fun D hD=>⟨_,[],xs,rfl,P2.other (P2.ne hD),fun b o h1 h2 z=>by rw [Ae (Ah z (fr D hD))]; exact k2 b o h1 h2 z,by rw [Ae (Ah Yh hD)]; exact Yh,Ab,rfl,rfl,List.Perm.refl _⟩)
   (fun D i σ H' acc hD ⟨v0,ys,left,_,_,_,_,AK,_,al,_⟩=>⟨AK,al⟩) ?_ ?_
  ·rintro D i σ H' acc B hD hi ⟨v0,ys,left,rfl,P3,k3,h3,AK,ea,al,pm⟩ hB;have yl:ys.length=i:=by rw [<-al,ea,ZA]
   have ll:ys.length + left.length=xs.length:=by rw [<-ZH]; exact pm.length_eq
   have nD:=P2.ne hD;have nDP:D ≠ PL:=fun z=>by rw [z,Yh] at hD; cases hD
   refine ⟨_,rfl,.inl ⟨rfl,_,AZ.of h3⟩,_,rfl,_,rfl,PL,_,rfl,.inl (AZ.of h3),p,_,rfl,P3,?_,?_,fun e' a1 b1 c1 Yn We=>?_⟩
   ·rw [ZA]; lia
   ·rw [ZA]; lia
   rw [ZA] at We;obtain ⟨q,rfl⟩:∃ q:Nat,e'=(q:Int):=⟨e'.toNat,by lia⟩
   have hq:q < left.length:=by lia
   have hget:left[q]? = some left[q]:=Z9 hq;have h4:(upd H' p (.lst (A1 a1 b1 c1))) PL=some (.lst (left.map V.str)):=by rw [Ae nPL]; exact h3
   exists PL,_,_,q,.str left[q],rfl,rfl,h4,by lia,by lia,?_,by rw [ZL,hget]; rfl
   ·rw [ZA];exact (Ik (by show RL left.length (q:Int)=some q; unfold RL; rw [if_pos (by lia),if_pos (by lia)]; rfl)).1
   rw [G9];refine hB _ _ _ (by rw [Ae nDP,Ae nD]; exact AK) ⟨_,ys ++ [left[q]],left.eraseIdx q,rfl,((A6.set a1 b1 c1).other nPL).other nD,fun b' o hb Ip z=>?_,?_,Ab,by rw [ea,ZG]; rfl,by rw [ZH,al]; rfl,?_⟩
   ·rw [Ae (Ah z (fr D hD)),Ae Ip,Ae hb];exact k3 b' o hb Ip z
   ·rw [Ae nDP.symm];exact Ab
   ·refine List.Perm.trans ?_ pm;rw [aQ];exact List.Perm.append_left _ (E6 hget)
  ·rintro D σ H' acc hD ⟨v0,ys,left,rfl,P3,k3,h3,AK,ea,al,pm⟩;have yl:ys.length=n:=by rw [<-al,ea,ZA]
   exact k H' D ys left P3 (fun b' o hb z=>k3 b' o hb (Ah z hPL) z) (fr D hD) (by rw [AK,ea]) pm (by lia) (by lia)
end
section
variable {P:Program} {w:World} {K:ZD} {mg:Str->Option Value} {base:Heap}
theorem Ln (h_len:mg "len"=none) (h_range:mg "range"=none) {fT:Addr} {fdT:FuncData} (XT:Fn K mg "_law_take" Bv ["_law_pen_here","_law_many"] fT fdT) (GT:A8 P w K mg base Bt 1 fT fdT ["_law_pen_here","_law_many"] CO) {f:Addr} {fd:FuncData} (F:Dm K "_law_names" "_law_names" DA f fd):A8 P w K mg base Bt 2 f fd ["_law_pen_here","_law_many"] LX:=by
 refine F.ok FR (fun vs H Q E h=>?_) (fun cdv A outer s H vs Q E hr h=>?_)
 ·obtain ⟨p,n,rfl,_⟩:=h;rfl
 ·obtain ⟨p,n,rfl,hP,hn,k⟩:=h;have nd:=FR.nd;have big:100000 < sizeLine:=by decide
  refine ⟨_,(Af (Ao (i:=2) nd rfl (Or.inr rfl) IS)
  (Af (Ao (i:=3) nd rfl (Or.inl rfl) (Ht PySem.F.plainAttrs_str PySem.F.slot_str_join PySem.F.type_str_join Ta IS (Aa (AS (N:=["_law_k","_law_pen_here","_law_letters"]) (σ0:=fun σ=>[none,some 0,some 2].map fun j=>j.bind fun j=>(σ[j]?).join) rfl (AD.caught (by rfl) (by decide +kernel) rfl (by decide +kernel) (by intro y hy; simp only [ZF,ZI,or_false] at hy; rcases hy with rfl | rfl <;> rfl)
   (by intro y hy e; simp only [ZF,ZI,or_false] at hy; rcases hy with rfl | rfl | rfl | rfl | rfl <;> first | exact ⟨_,rfl⟩ | cases e)) (fun σ _=>Ba.of [none,some 0,some 2] rfl (by
   intro i j x h1 h2;match i,h1,h2 with
   | 0,_,h2=>cases h2
   | 1,h1,h2=>cases h1; cases h2; exact ⟨rfl,.inl rfl,.inl rfl⟩
   | 2,h1,h2=>cases h1; cases h2; exact ⟨rfl,.inl rfl,.inl rfl⟩
   | n + 3,h1,_=>cases h1)) (C0 (by rfl) h_range (Aa (Am GT (hr.mono (by decide)) (by rfl) XT.mg XT.F.kp XT.b .nil Ax (Aa (pv 0) (Aa Ag Ac))) Ac))
   (fun s2 H C fp=>⟨(Ai (i:=0) (show (["_law_k","_law_pen_here","_law_letters"]:List Str).Nodup by decide +kernel) rfl (Or.inl rfl)),AQ,(Az RK (pv 2) (Am GT (hr.mono (by decide)) (by rfl) XT.mg XT.F.kp XT.b .nil Ax (Aa (pv 1) (Aa Ag Ac))) (fun _ _=>rfl))⟩)) Ac)))
  (Af (Ao (i:=4) nd rfl (Or.inl rfl) (Am GT (hr.mono (by decide)) (by rfl) XT.mg XT.F.kp XT.b .nil Ax (Aa (pv 0) (Aa (As Bg (Ak Gm (by rfl) h_len PySem.boot_len (Aa (pv 3) Ac)) Ag) Ac))))
  (Af (Ao (i:=5) nd rfl (Or.inl rfl) (Am GT (hr.mono (by decide)) (by rfl) XT.mg XT.F.kp XT.b .nil Ax (Aa (pv 0) (Aa Ag Ac))))
  (Af (Ao (i:=6) nd rfl (Or.inl rfl) (Az Bf (Bw (Aa Ag (Aa Ag (Aa Ag (Aa Ag Ac))))) (Am GT (hr.mono (by decide)) (by rfl) XT.mg XT.F.kp XT.b .nil Ax (Aa (pv 0) (Aa Ag Ac))) (fun _ _=>rfl)))
  (Af (Ao (i:=7) nd rfl (Or.inl rfl) (Am GT (hr.mono (by decide)) (by rfl) XT.mg XT.F.kp XT.b .nil Ax (Aa (pv 0) (Aa Ag Ac))))
  (Af (Ao (i:=8) nd rfl (Or.inl rfl) (Bw Ac))
  (Af (BC PassesOwn.never rfl (C0 (by rfl) h_range (Aa (pv 1) Ac)) (Ai (i:=9) nd rfl (Or.inl rfl))
  (Af (Ao (i:=10) nd rfl (Or.inl rfl) (Az RK (pv 2) (As EL (As Bg (pv 5) (As BG (pv 6) (pv 9))) Ag) (fun _ _=>rfl)))
  (Al (FX (Ht PySem.F.plainAttrs_list PySem.F.slot_list_append PySem.F.type_list_append C4 (pv 8) (Aa (As F4 (As F4 (As F4 (FY (pv 3) Dc (CZ (pv 4))) (pv 10)) (FY (pv 3) (CZ (pv 4)) Dc)) (As R6 IS (As BG (pv 7) (As EL (pv 9) Ag)))) Ac))))))
  (Al (A4 (pv 8))))))))))),?_⟩
  refine ⟨rfl,_,rfl,p,5,rfl,hP,by decide,by decide,fun d a b c da db=>⟨_,rfl,by lia,by lia,?_⟩⟩;show ∀ D,(upd H p (.lst (A1 a b c))) D=none->_
  have P1:A6 (upd H p (.lst (A1 a b c))) p:=A6.set a b c;have q1:A9 p H (upd H p (.lst (A1 a b c))):=A9.upd;generalize upd H p (.lst (A1 a b c))=H1 at P1 q1;refine Mc (n:=d.toNat) (fun D i σ H' acc=>∃ (v0:Option V) (ss:List Str),σ=[v0,some (.ref p),some (.str Gd)]/\A6 H' p/\A9 p H1 H'/\H' D=some (.lst acc)/\acc=ss.map V.str/\acc.length=i/\∀ s ∈ ss,s.length=1/\TL s)
   (by lia) (fun D hD=>⟨_,[],rfl,P1.other (P1.ne hD),A9.of_same (Ad hD),Ab,rfl,rfl,fun s hs=>nomatch hs⟩) (fun D i σ H' acc hD ⟨v0,ss,_,_,_,AK,_,al,_⟩=>⟨AK,al⟩) ?_ ?_
  ·rintro D i σ H' acc B hD hi ⟨v0,ss,rfl,P2,q2,AK,ea,al,lo⟩ hB;have nD:=P1.ne hD;refine ⟨_,rfl,_,rfl,p,26,rfl,P2,by decide,by decide,fun e a1 b1 c1 Yn We=>?_⟩;have lc:=HD _ (L7 (Es Yn We));exists _,_,_,rfl,rfl,by decide,Es Yn We
   refine hB _ _ _ (by rw [Ae nD]; exact AK) ⟨_,ss ++ [⟨#[97 + e.toNat]⟩],rfl,(A6.set a1 b1 c1).other nD,fun b' o hb z=>?_,Ab,by rw [ea,ZG]; rfl,by rw [ZH,al]; rfl,fun s hs=>?_⟩
   ·rw [Ae (Ah z hD),Ae hb];exact q2 b' o hb z
   ·rcases af.mp hs with hs | hs
    ·exact lo s hs
    ·rw [aa] at hs;subst hs;refine ⟨rfl,fun c hc=>?_⟩;have:c=97 + e.toNat:=by simpa using hc
     subst this;exact lc
  rintro D0 σ0 H2 acc hD0 ⟨v0,ss,rfl,P2,q2,AK,ea,al,lo⟩;obtain ⟨j1,j2,j3⟩:=RJ lo;have sl:ss.length=d.toNat:=by rw [<-al,ea,ZA]
  exists _,D0,ss,rfl,rfl,by rw [AK,ea],by decide,by lia
  generalize Txt.join (Str.ofString "") ss=bs at j1 j2;have bl:bs.length<=4:=by lia
  refine ⟨_,rfl,_,rfl,bs,rfl,by lia,_,_,rfl,rfl,p,_,rfl,P2,by lia,by lia,fun at' a2 b2 c2 at0 Xq=>?_⟩;refine ⟨_,rfl,p,26,rfl,A6.set a2 b2 c2,by decide,by decide,fun st a3 b3 c3 IB st1=>?_⟩;rw [FK];refine ⟨(by show 4<=sizeLine; lia),fun T8 hT8=>?_⟩;have n8:T8 ≠ p:=(A6.set (H:=H2) (p:=p) a3 b3 c3).ne hT8;refine ⟨_,rfl,p,4,rfl,(A6.set a3 b3 c3).other n8,by decide,by decide,fun e8 a4 b4 c4 e8a e8b=>?_⟩;obtain ⟨sp,hsp⟩:=Sf (ns:=[1,5,7,11]) e8a e8b;exists T8,_,_,.int sp,rfl,rfl,AZ.of (by rw [Ae n8]; exact Ab),hsp;have spm:sp ∈ ([1,3,5,7,9,11,15,17]:List Int):=by
   have:=L7 hsp;simp only [ZS,cD,ZF,V.int.injEq,ZI,or_false] at this;rcases this with rfl | rfl | rfl | rfl <;> simp
  have spb:0<=sp/\sp<=17:=by
   simp only [ZF,ZI,or_false] at spm;rcases spm with rfl | rfl | rfl | rfl | rfl | rfl | rfl | rfl <;> lia
  have P4:A6 (upd (upd (upd H2 p (.lst (A1 a3 b3 c3))) T8 (.lst [.int 1,.int 5,.int 7,.int 11])) p (.lst (A1 a4 b4 c4))) p:=A6.set _ _ _;have q4:A9 p H2 (upd (upd (upd H2 p (.lst (A1 a3 b3 c3))) T8 (.lst [.int 1,.int 5,.int 7,.int 11])) p (.lst (A1 a4 b4 c4))):=(A9.upd.trans (A9.of_same (Ad hT8))).trans A9.upd;generalize upd (upd (upd H2 p (.lst (A1 a3 b3 c3))) T8 (.lst [.int 1,.int 5,.int 7,.int 11])) p (.lst (A1 a4 b4 c4))=H4 at P4 q4;refine ⟨_,rfl,p,2,rfl,P4,by decide,by decide,fun mo a5 b5 c5 mo0 VU=>?_⟩;have P5:A6 (upd H4 p (.lst (A1 a5 b5 c5))) p:=A6.set _ _ _;have q5:A9 p H (upd H4 p (.lst (A1 a5 b5 c5))):=((q1.trans q2).trans q4).trans A9.upd;generalize upd H4 p (.lst (A1 a5 b5 c5))=H5 at P5 q5;refine ⟨(by show 0<=sizeLine; lia),fun D hD=>?_⟩;have nD:D ≠ p:=P5.ne hD;have fD:H D=none:=by
   cases z:H D with
   | none=>rfl
   | some o=>rw [q5 _ _ nD z] at hD; cases hD
  exists _,rfl,n,rfl,by lia,by lia
  refine Dk (n:=n) (lo:=0) (fun j σ H'=>∃ (xs:List Str) (v9 v10:Option V),σ=[some (.ref p),some (.int n),some (.str Gd),some (.str bs),some (.int at'),some (.int st),some (.int sp),some (.int mo),some (.ref D),v9,v10]/\H'=upd H5 D (.lst (xs.map V.str))/\xs.length=j/\(∀ x ∈ xs,Bm x=true)/\∀ (i:Nat) x,xs[i]? = some x->∃ tl,x.cps.toList=(Txt.slice bs none (some at')).cps.toList ++ (PJ n st sp i ++ tl))
   ⟨[],_,_,rfl,rfl,rfl,(fun x hx=>nomatch hx),(fun i x e=>by simp at e)⟩ ?_ ?_
  ·rintro j σ H' hj ⟨xs,v9,v10,rfl,rfl,xl,nm,sh⟩;have r0:0<=(st + sp * (0 + (j:Int))) % 26:=bK _ (by decide);have r1:(st + sp * (0 + (j:Int))) % 26 < 26:=cg _ (by decide);exists _,rfl,_,rfl,_,rfl,_,rfl,_,_,rfl,rfl,.inl ⟨by lia,by lia⟩,_,_,rfl,rfl,_,_,rfl,rfl,(by show (0:Int) < 26; decide),_,_,_,rfl,rfl,by decide,Es r0 r1
   have lc:=HD _ (L7 (Es r0 r1));have s1:=Rf (z:=bs) at0 (by lia);have s2:=Nk (z:=bs) at0 (by lia);have w1:=Kj (z:=bs) none (some at') j1;have w2:=Kj (z:=bs) (some at') none j1;have dD:(upd H5 D (.lst (xs.map V.str))) D=some (.lst (xs.map V.str)):=Ab;have m01:mo * ((0 + (j:Int)) % 2)=0\/mo * ((0 + (j:Int)) % 2)=1:=by
    have e1:mo=0\/mo=1:=by lia
    have e2:(0 + (j:Int)) % 2=0\/(0 + (j:Int)) % 2=1:=by lia
    rcases e1 with rfl | rfl <;> rcases e2 with e2 | e2 <;> rw [e2] <;> simp
   have hz:∀ z:Str,z=(if mo * ((0 + (j:Int)) % 2)=1 then Str.ofString "n" else Str.empty)->z.length<=1/\TL z:=fun z e=>by
    subst e;split
    ·refine ⟨by decide,fun c hc=>?_⟩;have e:(Str.ofString "n").cps.toList=[110]:=by decide +kernel
     rw [e,aa] at hc;subst hc;decide
    ·exact ⟨by decide,fun c hc=>by cases hc⟩
   obtain ⟨zz,ezz⟩:∃ zz,zz=(if mo * ((0 + (j:Int)) % 2)=1 then Str.ofString "n" else Str.empty):=⟨_,rfl⟩
   obtain ⟨z1,z2⟩:=hz zz ezz;have fin:∀ (x:Str),x=Txt.slice bs none (some at') ++ ⟨#[97 + ((st + sp * (0 + (j:Int))) % 26).toNat]⟩ ++ Txt.slice bs (some at') none ++ zz->Bm x=true/\∃ tl,x.cps.toList=(Txt.slice bs none (some at')).cps.toList ++ (PJ n st sp j ++ tl):=fun x e=>by
    have ec:x.cps.toList=(Txt.slice bs none (some at')).cps.toList ++ ([97 + ((st + sp * (0 + (j:Int))) % 26).toNat] ++ ((Txt.slice bs (some at') none).cps.toList ++ zz.cps.toList)):=by
     rw [e,Str.cps_append,Str.cps_append,Str.cps_append,aq,aq,aq,aQ,aQ]
    have el:x.length=(Txt.slice bs none (some at')).length + 1 + (Txt.slice bs (some at') none).length + zz.length:=by
     rw [e,Str.length_append,Str.length_append,Str.length_append];rfl
    exists R9 (by lia) (by lia) fun c hc=>?_
    ·rw [ec,af,af,af,aa] at hc;rcases hc with hc | hc | hc | hc
     ·exact w1 c hc
     ·rw [hc]; exact lc
     ·exact w2 c hc
     ·exact z2 c hc
    ·exists (Txt.slice bs (some at') none).cps.toList ++ zz.cps.toList;rw [ec];unfold PJ;rw [if_neg (by lia),dh]
   exists _,rfl,.inl ⟨rfl,_,AZ.of dD⟩,_,rfl,_,rfl,_,rfl,bs,rfl,by lia,_,rfl,_,_,rfl,rfl,?_,_,rfl,_,rfl,_,rfl,bs,rfl,by lia,_,_,rfl,rfl,?_,_,rfl,_,rfl,_,_,rfl,rfl,(by show (0:Int) < 2; decide),_,_,rfl,rfl,.inl ⟨by lia,by lia⟩,_,_,rfl,rfl,m01,_,_,rfl,rfl,?_,D,_,_,rfl,rfl,dD,(by rw [ZA]; lia)
   ·show (Txt.slice bs none (some at')).length + 1<=sizeLine
    lia
   ·rw [Str.length_append];show (Txt.slice bs none (some at')).length + 1 + _<=sizeLine
    lia
   ·rw [<-ezz,Str.length_append,Str.length_append];show (Txt.slice bs none (some at')).length + 1 + _ + _<=sizeLine
    lia
   rw [<-ezz];obtain ⟨f1,f2⟩:=fin _ rfl;refine ⟨xs ++ [_],_,_,rfl,by rw [FK,ZG]; rfl,by rw [ZH,xl]; rfl,fun x hx=>?_,fun i x e=>?_⟩
   ·rcases af.mp hx with hx | hx
    ·exact nm x hx
    ·rw [aa.mp hx];exact f1
   ·by_cases hi:i < xs.length
    ·rw [aF hi] at e;exact sh i x e
    ·have Yd:i=j:=by
      have:=(ZN.mp e).1;rw [ZH,b8] at this;lia
     subst Yd;rw [ay (by lia),xl,di,aJ] at e;rw [<-ZZ.inj e];exact f2
  ·rintro σ H' ⟨xs,v9,v10,rfl,rfl,xl,nm,sh⟩;exact ⟨_,rfl,k _ D xs (P5.other nD) (fun b' o hb z=>by rw [Ae (Ah z fD)]; exact q5 _ _ hb z) fD Ab xl (My sh fun i j hij hj tl UH=>Vj (by lia) spm hij (by lia) tl UH) nm⟩
end
section
variable {P:Program} {w:World} {K:ZD} {mg:Str->Option Value} {base:Heap}
theorem QJ (h_sorted:mg "sorted"=none) (h_tuple:mg "tuple"=none) {fT:Addr} {fdT:FuncData} (XT:Fn K mg "_law_take" Bv ["_law_pen_here","_law_many"] fT fdT) (GT:A8 P w K mg base Bt 1 fT fdT ["_law_pen_here","_law_many"] CO)
  {f:Addr} {cdv:Value} {A:Around} {outer:List Env} {s:Shared} {H:Hp} {E:XK} (hr:Ex 1 (A.deeper (PyProof.Rows.envOfC "_law_ways" (An Ce) s.heap.objs.size f cdv))) :
  ∃ t,OP (NS Bt P w K mg base ["_law_pen_here","_law_names_here","_law_kind","_law_size","_law_pairs","_law_k","_law_other","_law_one"] "_law_ways" (An Ce) f cdv A outer s H E).nox ((Dg Ce).drop 4) t /\
   ∀ (W:Gs) (H1:Hp) (p e L:Addr) (kd sz:Int) (v5 v6 v7:Option V) (us:List V) (qs:List (Str × Str)) (xs:List Str),A6 H1 p->H1 L=some (.lst us)->L ≠ p->BR H1 us (qs.map DV)->Dy xs (qs.map Mm)->us.length<=30->1<=sz->sz<=9 ->
    (∀ (H':Hp) (T:Addr) (OV:List V) (ws Gu:List AJ),A6 H' p->A9 p H1 H'->H' T=some (.tup OV)->AE H' OV (ws.map Ee)->ws.Perm (Gu.map Ep)->Dy xs Gu->(∀ u ∈ Gu,u.2.2<=9)->Gu.length<=30->W.rt (.ref T) H') ->
    t W [some (.ref p),some (.ref e),some (.int kd),some (.int sz),some (.ref L),v5,v6,v7] H1:=by
 have nd:=EE.nd;have hu:=CN hr;have big:100000 < sizeLine:=by decide
 refine ⟨_,(Al (A4 (AA B5 (by rfl) h_tuple PyProof.Rows.boot_tuple (Aa (Ak (F9 K rfl) (by rfl) h_sorted PyProof.Rows.boot_sorted (Aa (AS (N:=["_law_pair","_law_pen_here","_law_size"]) (σ0:=fun σ=>[none,some 0,some 3].map fun j=>j.bind fun j=>(σ[j]?).join) rfl (AD.caught (by rfl) (by decide +kernel) rfl (by decide +kernel) (by intro y hy; simp only [ZF,ZI,or_false] at hy; rcases hy with rfl | rfl <;> rfl)
   (by intro y hy e; simp only [ZF,ZI,or_false] at hy; rcases hy with rfl | rfl | rfl | rfl | rfl | rfl | rfl <;> first | exact ⟨_,rfl⟩ | cases e)) (fun σ _=>Ba.of [none,some 0,some 3] rfl (by
   intro i j x h1 h2;match i,h1,h2 with
   | 0,_,h2=>cases h2
   | 1,h1,h2=>cases h1; cases h2; exact ⟨rfl,.inl rfl,.inl rfl⟩
   | 2,h1,h2=>cases h1; cases h2; exact ⟨rfl,.inl rfl,.inl rfl⟩
   | n + 3,h1,_=>cases h1)) (Fh (pv 4))
   (fun s2 H C fp=>⟨(Ai (i:=0) (show (["_law_pair","_law_pen_here","_law_size"]:List Str).Nodup by decide +kernel) rfl (Or.inl rfl)),AQ,(As (Mp K rfl) (AA (Dw K rfl) (by rfl) h_tuple PyProof.Rows.boot_tuple (Aa (Ak HW (by rfl) h_sorted PyProof.Rows.boot_sorted (Aa (pv 0) Ac)) Ac)) (AH (Aa (As Bg Ag (Am GT (hr.mono (by decide)) (by rfl) XT.mg XT.F.kp XT.b .nil Ax (Aa (pv 1) (Aa (pv 2) Ac)))) Ac)))⟩)) Ac)) Ac)))),?_⟩
 intro W H1 p e L kd sz v5 v6 v7 us qs xs P1 hL nL tU wc ul z1 z9 k;have ql:us.length=qs.length:=by rw [tU.len,ZA]
 exists _,rfl,L,rfl,⟨_,AZ.of hL⟩
 refine AX C2 (xs:=us) (fun D j σ H' acc=>∃ (v0:Option V) (ls:List Int),σ=[v0,some (.ref p),some (.int sz)]/\A6 H' p/\A9 p H1 H'/\H' D=some (.lst acc)/\acc.length=j/\ls.length=j/\(∀ l ∈ ls,1<=l/\l<=9)/\AE H' acc (((qs.zip ls).map fun c=>Ep (c.1.2,c.1.1,c.2)).map Ee))
  (by lia) (fun D hD=>⟨_,[],rfl,P1.other (P1.ne hD),A9.of_same (Ad hD),Ab,rfl,rfl,(fun l hl=>nomatch hl),by rw [List.zip_nil_right]; exact .nil⟩)
  (fun D j σ H' acc hD ⟨v0,ls,_,_,kp,AK,al,_⟩=>⟨AZ.of (kp _ _ nL hL),AK,al⟩) ?_ ?_
 ·rintro D j σ H' acc x' B hD ex ⟨v0,ls,rfl,P2,kp,AK,al,ll,lb,dd⟩ hB;obtain ⟨t,g,rfl,eg,ht⟩:=tU.get ex;obtain ⟨q,eq,rfl⟩:∃ q,qs[j]? = some q/\g=DV q:=by
   rw [ZL] at eg;cases z:qs[j]? with
   | none=>rw [z] at eg; cases eg
   | some q=>rw [z] at eg; exact ⟨q,rfl,(ZZ.inj eg).symm⟩
  have nD:=P1.ne hD;have tp:t ≠ p:=by intro y; subst y; obtain ⟨_,_,_,y⟩:=P1; rw [y] at ht; cases ht
  have DM:=kp _ _ tp ht;refine ⟨_,rfl,t,q.1,q.2,rfl,DM,fun l hl=>⟨l,_,rfl,.inl ⟨AZ.of Ab,fun T1 Tq=>?_⟩⟩⟩;have s1:=(Ad (o:=.lst [.str (BX q.1 q.2),.str (BY q.1 q.2)]) hl).trans (Ad (o:=.tup [.str (BX q.1 q.2),.str (BY q.1 q.2)]) Tq);have To:(upd (upd H' l (.lst [.str (BX q.1 q.2),.str (BY q.1 q.2)])) T1 (.tup [.str (BX q.1 q.2),.str (BY q.1 q.2)])) T1=some (.tup [.str (BX q.1 q.2),.str (BY q.1 q.2)]):=Ab;have P3:A6 (upd (upd H' l (.lst [.str (BX q.1 q.2),.str (BY q.1 q.2)])) T1 (.tup [.str (BX q.1 q.2),.str (BY q.1 q.2)])) p:=by obtain ⟨_,_,_,z⟩:=P2; exact ⟨_,_,_,s1 _ _ z⟩
  generalize upd (upd H' l (.lst [.str (BX q.1 q.2),.str (BY q.1 q.2)])) T1 (.tup [.str (BX q.1 q.2),.str (BY q.1 q.2)])=H3 at s1 To P3;have n1:T1 ≠ p:=by intro y; subst y; obtain ⟨_,_,_,y⟩:=P3; rw [y] at To; cases To
  refine ⟨_,rfl,_,rfl,p,sz,rfl,P3,by lia,by lia,fun d a b c d0 d1=>⟨_,_,rfl,rfl,(by show 1<=sizeLine; lia),fun T2 Q5=>?_⟩⟩;have Zr:(upd (upd H3 p (.lst (A1 a b c))) T2 (.tup [.int (1 + d)])) T1=some (.tup [.str (BX q.1 q.2),.str (BY q.1 q.2)]):=Ad Q5 _ _ (by rw [Ae n1]; exact To);refine ⟨T1,T2,_,_,rfl,rfl,Ay.of Zr,Ay.of Ab,by simp,by show 2 + 1<=sizeLine; lia,(fun z=>by cases z),fun _ T hT=>?_⟩;have P4:A6 (upd (upd (upd H3 p (.lst (A1 a b c))) T2 (.tup [.int (1 + d)])) T (.tup [.str (BX q.1 q.2),.str (BY q.1 q.2),.int (1 + d)])) p:=by
   have z:A6 (upd (upd H3 p (.lst (A1 a b c))) T2 (.tup [.int (1 + d)])) p:=(A6.set a b c).other ((A6.set (H:=H3) a b c).ne Q5);exact z.other (z.ne hT)
  have k4:∀ b' o,b' ≠ p->H' b'=some o->(upd (upd (upd H3 p (.lst (A1 a b c))) T2 (.tup [.int (1 + d)])) T (.tup [.str (BX q.1 q.2),.str (BY q.1 q.2),.int (1 + d)])) b'=some o:=fun b' o hb z=>Ad hT _ _ (Ad Q5 _ _ (by rw [Ae hb]; exact s1 _ _ z))
  have K1:(upd (upd (upd H3 p (.lst (A1 a b c))) T2 (.tup [.int (1 + d)])) T (.tup [.str (BX q.1 q.2),.str (BY q.1 q.2),.int (1 + d)])) T=some (.tup [.str (BX q.1 q.2),.str (BY q.1 q.2),.int (1 + d)]):=Ab;show B _ _ (upd (upd (upd H3 p (.lst (A1 a b c))) T2 (.tup [.int (1 + d)])) T (.tup [.str (BX q.1 q.2),.str (BY q.1 q.2),.int (1 + d)]))
  generalize upd (upd (upd H3 p (.lst (A1 a b c))) T2 (.tup [.int (1 + d)])) T (.tup [.str (BX q.1 q.2),.str (BY q.1 q.2),.int (1 + d)])=H5 at P4 k4 K1;have hD5:=k4 _ _ nD AK;have nT:T ≠ D:=Cy K1 hD5 (fun z=>by cases z);refine hB _ _ _ hD5 ⟨_,ls ++ [1 + d],rfl,P4.other nD,fun b' o hb z=>by rw [Ae (Ah z hD)]; exact k4 _ _ hb (kp _ _ hb z),Ab,by rw [ZH,al]; rfl,by rw [ZH,ll]; rfl,fun l hl=>?_,?_⟩
  ·rcases af.mp hl with hl | hl
   ·exact lb l hl
   ·rw [aa.mp hl]; lia
  ·rw [LH (a:=q) (by rw [ll]; exact eq),ZG,ZG];refine CG (Dn dd fun b' ys z=>?_) (.cons (.tup (vs:=[.str (BX q.1 q.2),.str (BY q.1 q.2),.int (1 + d)]) (by rw [Ae nT]; exact K1) ?_) .nil)
   ·rw [Ae (Cy z AK (fun y=>by cases y))];exact k4 _ _ (by intro y; subst y; obtain ⟨_,_,_,y⟩:=P2; rw [y] at z; cases z) z
   ·show AE _ _ [.str (BX q.2 q.1),.str (BY q.2 q.1),.int (1 + d)]
    rw [PX q.2 q.1,PZ q.2 q.1];exact .cons (.str _) (.cons (.str _) (.cons (.int _) .nil))
 ·rintro D σ H' acc hD ⟨v0,ls,rfl,P2,kp,AK,al,ll,lb,dd⟩;have nD:=P1.ne hD;refine ⟨D,acc,_,rfl,AZ.of AK,dd,fun l DR EV hl MZ pm=>⟨l,_,rfl,.inl ⟨AZ.of Ab,fun T hT=>?_⟩⟩⟩;have s1:=(Ad (o:=.lst DR) hl).trans (Ad (o:=.tup DR) hT);refine k _ T DR EV ((qs.zip ls).map fun c=>(c.1.2,c.1.1,c.2)) (by obtain ⟨_,_,_,z⟩:=P2; exact ⟨_,_,_,s1 _ _ z⟩) (kp.trans (A9.of_same s1)) Ab (Dn MZ fun b ys z=>s1 _ _ z) (by rw [aL]; exact pm) (wc.lens ?_ ?_) ?_ ?_
  ·rw [ZA,bH,ZA];lia
  ·intro i u u' e1 e2;rw [ZL] at e1 e2;cases z:qs[i]? with
   | none=>rw [z] at e1; cases e1
   | some q=>
    rw [z] at e1;cases e1
    have hi:=(ZN.mp z).1;have el:ls[i]? = some (ls[i]'(by lia)):=Z9 _;have ez:(qs.zip ls)[i]? = some (q,ls[i]'(by lia)):=bD.mpr ⟨z,el⟩;rw [ez] at e2;cases e2
    exact ⟨rfl,rfl,(lb _ (ZE el)).1⟩
  ·intro u hu;obtain ⟨⟨q,l⟩,hc,rfl⟩:=ZO.mp hu;exact (lb l (cF hc).2).2
  ·rw [ZA,bH];lia
theorem Mr (h_int:mg "int"=none) (h_len:mg "len"=none) (h_range:mg "range"=none) (h_sorted:mg "sorted"=none) (h_tuple:mg "tuple"=none) {fT:Addr} {fdT:FuncData} (XT:Fn K mg "_law_take" Bv ["_law_pen_here","_law_many"] fT fdT) (GT:A8 P w K mg base Bt 1 fT fdT ["_law_pen_here","_law_many"] CO) {f:Addr} {fd:FuncData} (F:Dm K "_law_ways" "_law_ways" Ce f fd):A8 P w K mg base Bt 2 f fd ["_law_pen_here","_law_names_here","_law_kind"] Ol:=by
 refine F.ok EE (fun vs H Q E h=>?_) (fun cdv A outer s H vs Q E hr h=>?_)
 ·obtain ⟨p,e,xs,kd,rfl,_⟩:=h;rfl
 ·obtain ⟨p,e,xs,kd,rfl,P0,he,nep,xnd,xnm,x1,x26,k⟩:=h;have nd:=EE.nd;have hu:=CN hr;have Jn:=hr.units;obtain ⟨tE,hE,kE⟩:=QJ (P:=P) (w:=w) (K:=K) (mg:=mg) (base:=base) h_sorted h_tuple XT GT (f:=f) (cdv:=cdv) (A:=A) (outer:=outer) (s:=s) (H:=H) (E:=E) hr;have big:100000 < sizeLine:=by decide
  refine ⟨_,(Af (Ao (i:=3) nd rfl (Or.inr rfl) (Az Bf (Bw (Aa Ag (Aa Ag (Aa Ag (Aa Ag Ac))))) (Am GT (hr.mono (by decide)) (by rfl) XT.mg XT.F.kp XT.b .nil Ax (Aa (pv 0) (Aa Ag Ac))) (fun _ _=>rfl)))
  (Af (Ao (i:=4) nd rfl (Or.inl rfl) (Bw Ac))
  (Af (BC PassesOwn.never rfl (PD (by rfl) h_range (Aa Ag (Aa (Ak AI (by rfl) h_len PySem.boot_len (Aa (pv 1) Ac)) Ac))) (Ai (i:=5) nd rfl (Or.inl rfl))
  (Af (Ao (i:=6) nd rfl (Or.inl rfl) (Az Bf (Bw (Aa (As G5 (pv 5) Ag) (Aa (Am GT (hr.mono (by decide)) (by rfl) XT.mg XT.F.kp XT.b .nil Ax (Aa (pv 0) (Aa (pv 5) Ac))) Ac))) (AA Dl (by rfl) h_int PyProof.Rows.boot_int (Aa (Ct Ug (pv 2) Ag (Bx _)) Ac)) (fun _ _=>rfl)))
  (Al (FX (Ht PySem.F.plainAttrs_list PySem.F.slot_list_append PySem.F.type_list_append C4 (pv 4) (Aa (AH (Aa (Az Bf (pv 1) (pv 5) (fun _ _=>rfl)) (Aa (Az Bf (pv 1) (pv 6) (fun _ _=>rfl)) Ac))) Ac))))))
  (Af (Cr (By Hu (pv 2) Ag (Bx _))
  (Al (BC PassesOwn.never rfl (C0 (by rfl) h_range (Aa (Am GT (hr.mono (by decide)) (by rfl) XT.mg XT.F.kp XT.b .nil Ax (Aa (pv 0) (Aa Ag Ac))) Ac)) (Ai (i:=5) nd rfl (Or.inl rfl))
  (Af (Ao (i:=7) nd rfl (Or.inl rfl) (Az Bf (pv 1) (Am GT (hr.mono (by decide)) (by rfl) XT.mg XT.F.kp XT.b .nil Ax (Aa (pv 0) (Aa (Ak AI (by rfl) h_len PySem.boot_len (Aa (pv 1) Ac)) Ac))) (fun _ _=>rfl)))
  (Af (Ao (i:=6) nd rfl (Or.inl rfl) (Az Bf (pv 1) (Am GT (hr.mono (by decide)) (by rfl) XT.mg XT.F.kp XT.b .nil Ax (Aa (pv 0) (Aa (Ak AI (by rfl) h_len PySem.boot_len (Aa (pv 1) Ac)) Ac))) (fun _ _=>rfl)))
  (Al (Cr (Nr (By R7 (pv 7) (pv 6) (Bx _)) (Nr (By (Fx Jn) (AH (Aa (pv 7) (Aa (pv 6) Ac))) (pv 4) (by rfl)) (O2 (By (Fx Jn) (AH (Aa (pv 6) (Aa (pv 7) Ac))) (pv 4) (by rfl))))).pt
  (Al (FX (Ht PySem.F.plainAttrs_list PySem.F.slot_list_append PySem.F.type_list_append C4 (pv 4) (Aa (AH (Aa (pv 7) (Aa (pv 6) Ac))) Ac))))
  Bo))))))
  Bo)
  hE)))),?_⟩
  refine ⟨(by show 4<=sizeLine; lia),fun T4 Yf=>?_⟩;have n4:T4 ≠ p:=P0.ne Yf;refine ⟨_,rfl,p,4,rfl,P0.other n4,by decide,by decide,fun e4 a1 b1 c1 e4a e4b=>?_⟩;obtain ⟨sz,hsz⟩:=Sf (ns:=[1,2,4,9]) e4a e4b;have szb:1<=sz/\sz<=9:=by
   have:=L7 hsz;simp only [ZS,cD,ZF,V.int.injEq,ZI,or_false] at this;rcases this with rfl | rfl | rfl | rfl <;> lia
  exists T4,_,_,.int sz,rfl,rfl,AZ.of (by rw [Ae n4]; exact Ab),hsz;have P1:A6 (upd (upd H T4 (.lst [.int 1,.int 2,.int 4,.int 9])) p (.lst (A1 a1 b1 c1))) p:=A6.set _ _ _;have q1:A9 p H (upd (upd H T4 (.lst [.int 1,.int 2,.int 4,.int 9])) p (.lst (A1 a1 b1 c1))):=(A9.of_same (Ad Yf)).trans A9.upd;generalize upd (upd H T4 (.lst [.int 1,.int 2,.int 4,.int 9])) p (.lst (A1 a1 b1 c1))=H1 at P1 q1;refine ⟨(by show 0<=sizeLine; lia),fun L hL=>?_⟩;have nL:L ≠ p:=P1.ne hL;have VZ:=q1 _ _ nep he;have neL:e ≠ L:=Ah VZ hL;have s2:=Ad (o:=.lst []) hL;exists _,rfl,e,_,rfl,.inl (AZ.of (s2 _ _ VZ)),_,_,rfl,⟨by lia,by lia,by rw [ZA]; lia,by rw [ZA]; lia⟩
  refine Dk (lo:=1) (fun j σ H'=>∃ (v5 v6 v7:Option V) (us:List V) (qs:List (Str × Str)),σ=[some (.ref p),some (.ref e),some (.int kd),some (.int sz),some (.ref L),v5,v6,v7]/\A6 H' p/\(∀ b o,b ≠ p->b ≠ L->H1 b=some o->H' b=some o)/\H' L=some (.lst us)/\BR H' us (qs.map DV)/\us.length=j/\LA xs (j + 1) (qs.map Mm))
   ⟨_,_,_,[],[],rfl,P1.other nL,fun b o _ hb z=>s2 _ _ z,Ab,.nil,rfl,LA.nil xs⟩ ?_ ?_
  ·rintro j σ H' hj ⟨v5,v6,v7,us,qs,rfl,P2,k2,Q7,tU,ul,tr⟩;rw [ZA] at hj;have OH:j + 1 < xs.length:=by lia
   have Zk:=k2 _ _ nep neL VZ;have ql:qs.length=j:=by rw [<-ul,tU.len,ZA]
   refine ⟨_,rfl,_,_,rfl,rfl,_,rfl,_,rfl,p,_,rfl,P2,by lia,by lia,fun d a2 b2 c2 d0 d1=>⟨(by show 2<=sizeLine; lia),fun T2 Q5=>?_⟩⟩;have P3:A6 (upd (upd H' p (.lst (A1 a2 b2 c2))) T2 (.lst [.int (1 + (j:Int) - 1),.int d])) p:=(A6.set a2 b2 c2).other ((A6.set (H:=H') a2 b2 c2).ne Q5);have k3:∀ b o,b ≠ p->H' b=some o->(upd (upd H' p (.lst (A1 a2 b2 c2))) T2 (.lst [.int (1 + (j:Int) - 1),.int d])) b=some o:=fun b o hb z=>Ad Q5 _ _ (by rw [Ae hb]; exact z)
   have WO:(upd (upd H' p (.lst (A1 a2 b2 c2))) T2 (.lst [.int (1 + (j:Int) - 1),.int d])) T2=some (.lst [.int (1 + (j:Int) - 1),.int d]):=Ab;generalize upd (upd H' p (.lst (A1 a2 b2 c2))) T2 (.lst [.int (1 + (j:Int) - 1),.int d])=H3 at P3 k3 WO;obtain ⟨o,hv,o0⟩:∃ o:Nat,Gv [V.int (1 + (j:Int) - 1),V.int d] (if decide ((0:Int) < kd)=true then 1 else 0)=some (.int (o:Int))/\o < j + 1:=by
    by_cases z:decide ((0:Int) < kd)=true
    ·rw [if_pos z];obtain ⟨o,rfl⟩:∃ o:Nat,d=(o:Int):=⟨d.toNat,by lia⟩
     exact ⟨o,rfl,by lia⟩
    ·rw [if_neg z,show 1 + (j:Int) - 1=((j:Nat):Int) by lia];exact ⟨j,rfl,by lia⟩
   refine ⟨_,rfl,_,_,rfl,rfl,.inr ⟨_,rfl,T2,_,_,_,rfl,rfl,AZ.of WO,hv,?_⟩⟩;have VY:=k3 _ _ nep Zk;have Q6:=k3 _ _ nL Q7;have ea:(xs.map V.str)[j + 1]? = some (.str xs[j + 1]):=by rw [ZL,Z9 OH]; rfl
   have eo:(xs.map V.str)[o]? = some (.str (xs[o]'(by lia))):=by rw [ZL,Z9 (by lia)]; rfl
   have e1j:(1 + (j:Int))=((j + 1:Nat):Int):=by lia
   refine ⟨_,rfl,.inl ⟨rfl,_,AZ.of Q6⟩,_,rfl,_,rfl,e,_,_,_,rfl,rfl,AZ.of VY,(by rw [e1j]; exact CA ea),_,rfl,_,rfl,e,_,_,_,rfl,rfl,AZ.of VY,CA eo,(by show 2<=sizeLine; lia),fun T hT=>⟨L,_,_,rfl,rfl,Ad hT _ _ Q6,by lia,?_⟩⟩;have sT:=Ad (o:=.tup [.str xs[j + 1],.str (xs[o]'(by lia))]) hT;have nT:T ≠ L:=Cy Ab (sT _ _ Q6) (fun z=>by cases z);have kT:∀ b ys,H' b=some (.tup ys)->(upd (upd H3 T (.tup [.str xs[j + 1],.str (xs[o]'(by lia))])) L (.lst (us ++ [.ref T]))) b=some (.tup ys):=fun b ys z=>by
    rw [Ae (Cy z Q7 (fun y=>by cases y))];exact sT _ _ (k3 _ _ (by intro y; subst y; obtain ⟨_,_,_,y⟩:=P2; rw [y] at z; cases z) z)
   exists _,_,_,us ++ [.ref T],qs ++ [(xs[j + 1],xs[o]'(by lia))],rfl,(P3.other (P3.ne hT)).other nL,fun b o' hb Ip z=>by rw [Ae Ip]; exact sT _ _ (k3 _ _ hb (k2 _ _ hb Ip z)),Ab,?_,by rw [ZH,ul]; rfl
   ·rw [ZG];exact (tU.keep kT).app (.cons (by rw [Ae nT]; exact Ab) .nil)
   ·rw [ZG];exact tr.more xnd OH [o] (by simp) (by intro y hy; rw [aa.mp hy]; exact o0) (by simp) rfl (fun q u y e1 e2=>by
     cases q with
     | zero=>
      simp at e1 e2;subst e1 e2;exact ⟨Z9 _,Z9 _,aV _⟩
     | succ q=>simp at e2)
  ·rintro σ H' ⟨v5,v6,v7,us,qs,rfl,P2,k2,Q7,tU,ul,tr⟩;have jx:(((xs.map V.str).length:Int) - 1).toNat + 1=xs.length:=by rw [ZA]; lia
   rw [jx] at tr;have wc:=(tr.ways xnd).c;have ul':us.length<=25:=by rw [ul,ZA]; lia
   have last:∀ (H':Hp) (v5 v6 v7:Option V) (us:List V) (qs:List (Str × Str)) (D:Gs),(∀ v H',D.rt v H' ↔ Q v H')->A6 H' p->(∀ b o,b ≠ p->b ≠ L->H1 b=some o->H' b=some o)->H' L=some (.lst us)->BR H' us (qs.map DV)->Dy xs (qs.map Mm)->us.length<=30->tE D [some (.ref p),some (.ref e),some (.int kd),some (.int sz),some (.ref L),v5,v6,v7] H':=fun H' v5 v6 v7 us qs D hD P3 k3 Q6 Wj VO Yx=>by
    refine kE D H' p e L kd sz v5 v6 v7 us qs xs P3 Q6 nL Wj VO Yx szb.1 szb.2 fun H2 T OV ws Gu P4 k4 hT dd pm w0 l9 l30=>(hD _ _).mpr ?_
    exact k H2 T OV ws Gu P4 (fun b o hb z=>k4 b o hb (k3 b o hb (Ah (q1 _ _ hb z) hL) (q1 _ _ hb z))) hT dd pm w0 l9 l30
   exists _,rfl,rfl,_,rfl;refine CL (fun _=>?_) (fun _=>last _ _ _ _ us qs _ (fun _ _=>Iff.rfl) P2 k2 Q7 tU wc (by lia));refine ⟨_,rfl,p,5,rfl,P2,by decide,by decide,fun d a2 b2 c2 d0 d1=>⟨_,rfl,by lia,by lia,?_⟩⟩;refine Dk (lo:=0) (fun j σ H'=>∃ (v5 v6 v7:Option V) (us:List V) (qs:List (Str × Str)),σ=[some (.ref p),some (.ref e),some (.int kd),some (.int sz),some (.ref L),v5,v6,v7]/\A6 H' p/\(∀ b o,b ≠ p->b ≠ L->H1 b=some o->H' b=some o)/\H' L=some (.lst us)/\BR H' us (qs.map DV)/\us.length<=25 + j/\Dy xs (qs.map Mm))
    ⟨_,_,_,us,qs,rfl,A6.set _ _ _,fun b o hb Ip z=>by rw [Ae hb]; exact k2 b o hb Ip z,by rw [Ae nL]; exact Q7,tU.keep fun b ys z=>by rw [Ae (by intro y; subst y; obtain ⟨_,_,_,y⟩:=P2; rw [y] at z; cases z)]; exact z,by lia,wc⟩ ?_ ?_
   ·rintro j σ H3 hj ⟨v5,v6,v7,us,qs,rfl,P3,k3,Q6,Wj,Yx,VO⟩;have VY:=k3 _ _ nep neL VZ;have xl0:(0:Int) < ((xs.map V.str).length:Int):=by rw [ZA]; lia
    have xlB:((xs.map V.str).length:Int) < 2 ^ 600:=by rw [ZA]; lia
    refine ⟨_,rfl,_,rfl,_,rfl,e,_,rfl,.inl (AZ.of VY),p,_,rfl,P3,xl0,xlB,fun g a3 b3 c3 g0 g1=>?_⟩;rw [ZA] at g1;obtain ⟨gn,rfl⟩:∃ n:Nat,g=n:=⟨g.toNat,by lia⟩
    have hgn:gn < xs.length:=by lia
    have eg:(xs.map V.str)[gn]? = some (.str xs[gn]):=by rw [ZL,Z9 hgn]; rfl
    have P4:A6 (upd H3 p (.lst (A1 a3 b3 c3))) p:=A6.set _ _ _;have k4:∀ b o,b ≠ p->H3 b=some o->(upd H3 p (.lst (A1 a3 b3 c3))) b=some o:=fun b o hb z=>by rw [Ae hb]; exact z
    generalize upd H3 p (.lst (A1 a3 b3 c3))=H4 at P4 k4;have he4:=k4 _ _ nep VY;exists e,_,_,_,rfl,rfl,AZ.of he4,CA eg;refine ⟨_,rfl,_,rfl,_,rfl,e,_,rfl,.inl (AZ.of he4),p,_,rfl,P4,xl0,xlB,fun h a4 b4 c4 h0 h1=>?_⟩;rw [ZA] at h1;obtain ⟨hn,rfl⟩:∃ n:Nat,h=n:=⟨h.toNat,by lia⟩
    have hhn:hn < xs.length:=by lia
    have eh:(xs.map V.str)[hn]? = some (.str xs[hn]):=by rw [ZL,Z9 hhn]; rfl
    have P5:A6 (upd H4 p (.lst (A1 a4 b4 c4))) p:=A6.set _ _ _;have k5:∀ b o,b ≠ p->H3 b=some o->(upd H4 p (.lst (A1 a4 b4 c4))) b=some o:=fun b o hb z=>by rw [Ae hb]; exact k4 _ _ hb z
    generalize upd H4 p (.lst (A1 a4 b4 c4))=H5 at P5 k5;have he5:=k5 _ _ nep VY;exists e,_,_,_,rfl,rfl,AZ.of he5,CA eh;have m1:xs[gn] ∈ xs:=aN hgn;have m2:xs[hn] ∈ xs:=aN hhn;generalize xs[gn]=o1 at m1;generalize xs[hn]=o2 at m2;have Wb:=k5 _ _ nL Q6;have np:∀ {HH:Hp} {b:Addr} {ys:List V},A6 HH p->HH b=some (.tup ys)->b ≠ p:=fun P z y=>by subst y; obtain ⟨_,_,_,y⟩:=P; rw [y] at z; cases z
    have Xy:BR H5 us (qs.map DV):=Wj.keep fun b ys z=>k5 _ _ (np P3 z) z
    exists _,rfl,_,rfl,rfl,_,rfl;have inv:∀ {H6:Hp} (v5 v6 v7:Option V),Aq H5 H6->∃ (v5' v6' v7':Option V) (us:List V) (qs:List (Str × Str)),[some (.ref p),some (.ref e),some (.int kd),some (.int sz),some (.ref L),v5,v6,v7]=[some (.ref p),some (.ref e),some (.int kd),some (.int sz),some (.ref L),v5',v6',v7']/\A6 H6 p/\(∀ b o,b ≠ p->b ≠ L->H1 b=some o->H6 b=some o)/\H6 L=some (.lst us)/\BR H6 us (qs.map DV)/\us.length<=25 + (j + 1)/\Dy xs (qs.map Mm):=fun v5 v6 v7 s6=>
     ⟨_,_,_,us,qs,rfl,by obtain ⟨_,_,_,z⟩:=P5; exact ⟨_,_,_,s6 _ _ z⟩,fun b o hb Ip z=>s6 _ _ (k5 _ _ hb (k3 b o hb Ip z)),s6 _ _ Wb,Xy.keep (fun b ys z=>s6 _ _ z),by lia,VO⟩
    refine CL (fun z1=>?_) (fun _=>BZ (inv _ _ _ fun b o z=>z));have Vo:o1 ≠ o2:=by
     intro y;subst y;simp at z1
    refine ⟨_,rfl,_,rfl,(by show 2<=sizeLine; lia),fun T1 Tq=>?_⟩;have t1:=Ad (o:=.tup [.str o1,.str o2]) Tq;exists _,rfl,T1,L,[o1,o2],us,qs.map DV,rfl,rfl,Ab,t1 _ _ Wb,Xy.keep (fun b ys z=>t1 _ _ z),_,rfl;refine CL (fun z2=>?_) (fun _=>BZ (inv _ _ _ t1));refine ⟨_,rfl,_,rfl,(by show 2<=sizeLine; lia),fun T2 Q5=>?_⟩;have t2:=t1.trans (Ad (o:=.tup [.str o2,.str o1]) Q5);exists _,rfl,T2,L,[o2,o1],us,qs.map DV,rfl,rfl,Ab,t2 _ _ Wb,Xy.keep (fun b ys z=>t2 _ _ z),_,rfl;refine CL (fun z3=>?_) (fun _=>inv _ _ _ t2);have y2:[o1,o2] ∉ qs.map DV:=by simpa using z2
    have y3:[o2,o1] ∉ qs.map DV:=by simpa using z3
    generalize upd (upd H5 T1 (.tup [.str o1,.str o2])) T2 (.tup [.str o2,.str o1])=H6 at t2;have hL6:=t2 _ _ Wb;refine ⟨_,rfl,.inl ⟨rfl,_,AZ.of hL6⟩,_,rfl,_,rfl,(by show 2<=sizeLine; lia),fun T hT=>⟨L,_,_,rfl,rfl,Ad hT _ _ hL6,by lia,?_⟩⟩;have sT:=t2.trans (Ad (o:=.tup [.str o1,.str o2]) hT);have nT:T ≠ L:=Cy Ab (sT _ _ Wb) (fun z=>by cases z);exists _,_,_,us ++ [.ref T],qs ++ [(o1,o2)],rfl,(by obtain ⟨_,_,_,z⟩:=P5; exact ⟨_,_,_,by rw [Ae nL.symm]; exact sT _ _ z⟩),fun b o hb Ip z=>by rw [Ae Ip]; exact sT _ _ (k5 _ _ hb (k3 b o hb Ip z)),Ab,?_,by rw [ZH]; simp; lia
    ·rw [ZG];refine (Xy.keep fun b ys z=>?_).app (.cons (by rw [Ae nT]; exact Ab) .nil);rw [Ae (Cy z Wb (fun y=>by cases y))];exact sT _ _ z
    ·rw [ZG];refine VO.snoc (x:=o2) (y:=o1) m2 m1 (fun y=>Vo y.symm) (aV _) fun u hu=>?_
     obtain ⟨q,hq,rfl⟩:=ZO.mp hu;have w1:DV q ∈ qs.map DV:=ZO.mpr ⟨q,hq,rfl⟩;rintro ⟨f1 | f1,f2 | f2⟩
     ·exact Vo (f2.trans f1.symm)
     ·refine y2 ?_;rw [f1,f2];exact w1
     ·refine y3 ?_;rw [f1,f2];exact w1
     ·exact Vo (f2.trans f1.symm)
   ·rintro σ H3 ⟨v5,v6,v7,us,qs,rfl,P3,k3,Q6,Wj,Yx,VO⟩;exact last _ _ _ _ us qs _ (fun _ _=>Iff.rfl) P3 k3 Q6 Wj VO (by lia)
end
section
variable {P:Program} {w:World} {K:ZD} {mg:Str->Option Value} {base:Heap}
theorem Mv (h_int:mg "int"=none) (h_len:mg "len"=none) (h_sorted:mg "sorted"=none) (h_tuple:mg "tuple"=none) {fT fN fW fS:Addr} {fdT fdN fdW fdS:FuncData} (XT:Fn K mg "_law_take" Bv ["_law_pen_here","_law_many"] fT fdT) (GT:A8 P w K mg base Bt 1 fT fdT ["_law_pen_here","_law_many"] CO) (XN:Fn K mg "_law_names" DA ["_law_pen_here","_law_many"] fN fdN) (GN:A8 P w K mg base Bt 2 fN fdN ["_law_pen_here","_law_many"] LX) (XW:Fn K mg "_law_ways" Ce ["_law_pen_here","_law_names_here","_law_kind"] fW fdW) (GW:A8 P w K mg base Bt 2 fW fdW ["_law_pen_here","_law_names_here","_law_kind"] Ol) (XS:Fn K mg "_law_some" Dq ["_law_pen_here","_law_names_here","_law_most"] fS fdS) (GS:A8 P w K mg base Bt 2 fS fdS ["_law_pen_here","_law_names_here","_law_most"] KR) {f:Addr} {fd:FuncData} (F:Dm K "_law_case" "_law_case" El f fd):A8 P w K mg base Bt 3 f fd ["_law_pen_here","_law_kind"] Ox:=by
 refine F.ok Hm (fun vs H Q E h=>?_) (fun cdv A outer s H vs Q E hr h=>?_)
 ·obtain ⟨p,kd,rfl,_⟩:=h;rfl
 ·obtain ⟨p,kd,rfl,hP,k⟩:=h;have nd:=Hm.nd;have big:100000 < sizeLine:=by decide
  refine ⟨_,(Af (Ao (i:=2) nd rfl (Or.inl rfl) (AA Dl (by rfl) h_int PyProof.Rows.boot_int (Aa (Ct Hu (Am GT (hr.mono (by decide)) (by rfl) XT.mg XT.F.kp XT.b .nil Ax (Aa (pv 0) (Aa Ag Ac))) Ag (Bx _)) Ac)))
  (Af (Ao (i:=3) nd rfl (Or.inl rfl) (Am GN (hr.mono (by decide)) (by rfl) XN.mg XN.F.kp XN.b .nil Ax (Aa (pv 0) (Aa (Az Bf (Bw (Aa (As Bg Ag (Am GT (hr.mono (by decide)) (by rfl) XT.mg XT.F.kp XT.b .nil Ax (Aa (pv 0) (Aa Ag Ac)))) (Aa (As Bg Ag (Am GT (hr.mono (by decide)) (by rfl) XT.mg XT.F.kp XT.b .nil Ax (Aa (pv 0) (Aa Ag Ac)))) Ac))) (pv 2) (fun _ _=>rfl)) Ac))))
  (Af (Ao (i:=4) nd rfl (Or.inr rfl) (Az Bf (Bw (Aa Ag (Aa Ag (Aa Ag (Aa Ag (Aa (As Nw Ag Ag) (Aa (As Nw Ag Ag) Ac))))))) (Am GT (hr.mono (by decide)) (by rfl) XT.mg XT.F.kp XT.b .nil Ax (Aa (pv 0) (Aa Ag Ac))) (fun _ _=>rfl)))
  (Af (O4 (ix:=5) (N:=["_law_row","_law_much"]) (σ0:=fun σ=>[none,some 4].map fun j=>j.bind fun j=>(σ[j]?).join) nd rfl (Or.inl rfl) rfl (AD.caught (by rfl) (by decide +kernel) rfl (by decide +kernel) (by intro y hy; simp only [ZF,ZI,or_false] at hy; rcases hy with rfl <;> rfl)
   (by intro y hy e; simp only [ZF,ZI,or_false] at hy; rcases hy with rfl | rfl | rfl <;> first | exact ⟨_,rfl⟩ | cases e)) (fun σ _=>Ba.of [none,some 4] rfl (by
   intro i j x h1 h2;match i,h1,h2 with
   | 0,_,h2=>cases h2
   | 1,h1,h2=>cases h1; cases h2; exact ⟨rfl,.inl rfl,.inl rfl⟩
   | n + 2,h1,_=>cases h1)) (G3 (Am GW (hr.mono (by decide)) (by rfl) XW.mg XW.F.kp XW.b .nil Ax (Aa (pv 0) (Aa (pv 3) (Aa (pv 1) Ac)))))
   (fun s2 H C fp=>⟨(Ai (i:=0) (show (["_law_row","_law_much"]:List Str).Nodup by decide +kernel) rfl (Or.inl rfl)),AQ,(As (Mp K rfl) (Ds (Eg K rfl) (pv 0) Dc (CZ Ag)) (AH (Aa (As BG (Az (A7 K rfl) (pv 0) Ag (fun _ _=>rfl)) (pv 1)) Ac)))⟩))
  (Af (Ao (i:=6) nd rfl (Or.inr rfl) (Az Bf (Bw (Aa Ag (Aa Ag (Aa Ag (Aa Ag Ac))))) (Am GT (hr.mono (by decide)) (by rfl) XT.mg XT.F.kp XT.b .nil Ax (Aa (pv 0) (Aa Ag Ac))) (fun _ _=>rfl)))
  (Af (Ao (i:=7) nd rfl (Or.inl rfl) (Ak (Dx K rfl) (by rfl) h_sorted PyProof.Rows.boot_sorted (Aa (AS (N:=["_law_place","_law_pen_here","_law_much","_law_dear"]) (σ0:=fun σ=>[none,some 0,some 4,some 6].map fun j=>j.bind fun j=>(σ[j]?).join) rfl (AD.caught (by rfl) (by decide +kernel) rfl (by decide +kernel) (by intro y hy; simp only [ZF,ZI,or_false] at hy; rcases hy with rfl | rfl | rfl <;> rfl)
   (by intro y hy e; simp only [ZF,ZI,or_false] at hy; rcases hy with rfl | rfl | rfl | rfl | rfl | rfl <;> first | exact ⟨_,rfl⟩ | cases e)) (fun σ _=>Ba.of [none,some 0,some 4,some 6] rfl (by
   intro i j x h1 h2;match i,h1,h2 with
   | 0,_,h2=>cases h2
   | 1,h1,h2=>cases h1; cases h2; exact ⟨rfl,.inl rfl,.inl rfl⟩
   | 2,h1,h2=>cases h1; cases h2; exact ⟨rfl,.inl rfl,.inl rfl⟩
   | 3,h1,h2=>cases h1; cases h2; exact ⟨rfl,.inl rfl,.inl rfl⟩
   | n + 4,h1,_=>cases h1)) (Fh (Am GS (hr.mono (by decide)) (by rfl) XS.mg XS.F.kp XS.b .nil Ax (Aa (pv 0) (Aa (pv 3) (Aa (Az Bf (Bw (Aa Ag (Aa Ag Ac))) (pv 2) (fun _ _=>rfl)) Ac)))))
   (fun s2 H C fp=>⟨(Ai (i:=0) (show (["_law_place","_law_pen_here","_law_much","_law_dear"]:List Str).Nodup by decide +kernel) rfl (Or.inl rfl)),AQ,(AH (Aa (pv 0) (Aa (As BG (pv 2) (Am GT (hr.mono (by decide)) (by rfl) XT.mg XT.F.kp XT.b .nil Ax (Aa (pv 1) (Aa (pv 3) Ac)))) Ac)))⟩)) Ac)))
  (Af (Ao (i:=8) nd rfl (Or.inl rfl) (Ak (Dx K rfl) (by rfl) h_sorted PyProof.Rows.boot_sorted (Aa (AS (N:=["_law_place","_law_pen_here"]) (σ0:=fun σ=>[none,some 0].map fun j=>j.bind fun j=>(σ[j]?).join) rfl (AD.caught (by rfl) (by decide +kernel) rfl (by decide +kernel) (by intro y hy; simp only [ZF,ZI,or_false] at hy; rcases hy with rfl <;> rfl)
   (by intro y hy e; simp only [ZF,ZI,or_false] at hy; rcases hy with rfl | rfl | rfl | rfl <;> first | exact ⟨_,rfl⟩ | cases e)) (fun σ _=>Ba.of [none,some 0] rfl (by
   intro i j x h1 h2;match i,h1,h2 with
   | 0,_,h2=>cases h2
   | 1,h1,h2=>cases h1; cases h2; exact ⟨rfl,.inl rfl,.inl rfl⟩
   | n + 2,h1,_=>cases h1)) (Fh (Am GS (hr.mono (by decide)) (by rfl) XS.mg XS.F.kp XS.b .nil Ax (Aa (pv 0) (Aa (pv 3) (Aa (Az Bf (Bw (Aa Ag (Aa Ag Ac))) (pv 2) (fun _ _=>rfl)) Ac)))))
   (fun s2 H C fp=>⟨(Ai (i:=0) (show (["_law_place","_law_pen_here"]:List Str).Nodup by decide +kernel) rfl (Or.inl rfl)),AQ,(AH (Aa (pv 0) (Aa (As Bg Ag (Am GT (hr.mono (by decide)) (by rfl) XT.mg XT.F.kp XT.b .nil Ax (Aa (pv 1) (Aa Ag Ac)))) Ac)))⟩)) Ac)))
  (Af (Ao (i:=9) nd rfl (Or.inl rfl) (Az Bf (Bw (Aa R0 (Aa (As Bg Ag (Am GT (hr.mono (by decide)) (by rfl) XT.mg XT.F.kp XT.b .nil Ax (Aa (pv 0) (Aa (As Bg (Ak AI (by rfl) h_len PySem.boot_len (Aa (pv 7) Ac)) Ag) Ac)))) Ac))) (Am GT (hr.mono (by decide)) (by rfl) XT.mg XT.F.kp XT.b .nil Ax (Aa (pv 0) (Aa Ag Ac))) (fun _ _=>rfl)))
  (Al (A4 (AH (Aa (AH (Aa (AA B5 (by rfl) h_tuple PyProof.Rows.boot_tuple (Aa (Ak Ec (by rfl) h_sorted PyProof.Rows.boot_sorted (Aa (pv 3) Ac)) Ac)) (Aa (AA B5 (by rfl) h_tuple PyProof.Rows.boot_tuple (Aa (pv 5) Ac)) Ac))) (Aa (AA B5 (by rfl) h_tuple PyProof.Rows.boot_tuple (Aa (pv 7) Ac)) (Aa (AA B5 (by rfl) h_tuple PyProof.Rows.boot_tuple (Aa (pv 8) Ac)) (Aa (pv 9) Ac))))))))))))))),?_⟩
  refine ⟨_,rfl,p,12,rfl,hP,by decide,CM (by decide),fun d1 a1 b1 c1 Z2 Z1=>⟨rfl,.inr ⟨_,rfl,?_⟩⟩⟩;have Xx:=UB (decide (V.int d1=V.int 11));generalize (if decide (V.int d1=V.int 11)=true then (1:Int) else 0)=wv at Xx ⊢;have P1:A6 (upd H p (.lst (A1 a1 b1 c1))) p:=A6.set _ _ _;have k1:A9 p H (upd H p (.lst (A1 a1 b1 c1))):=A9.upd;generalize upd H p (.lst (A1 a1 b1 c1))=H1 at P1 k1 ⊢;refine ⟨_,rfl,_,rfl,p,8,rfl,P1,by decide,CM (by decide),fun d2 a2 b2 c2 d20 d21=>⟨_,_,rfl,rfl,?_⟩⟩;refine ⟨_,rfl,p,6,rfl,A6.set _ _ _,by decide,CM (by decide),fun d3 a3 b3 c3 d30 d31=>⟨_,_,rfl,rfl,(by show 2<=sizeLine; lia),fun L1 Xd=>?_⟩⟩;have P2:A6 (upd (upd (upd H1 p (.lst (A1 a2 b2 c2))) p (.lst (A1 a3 b3 c3))) L1 (.lst [.int (1 + d2),.int (20 + d3)])) p:=(A6.set a3 b3 c3).same (Ad Xd);have k2:A9 p H1 (upd (upd (upd H1 p (.lst (A1 a2 b2 c2))) p (.lst (A1 a3 b3 c3))) L1 (.lst [.int (1 + d2),.int (20 + d3)])):=(A9.upd.trans A9.upd).trans (A9.of_same (Ad Xd));have Xc:(upd (upd (upd H1 p (.lst (A1 a2 b2 c2))) p (.lst (A1 a3 b3 c3))) L1 (.lst [.int (1 + d2),.int (20 + d3)])) L1=some (.lst [.int (1 + d2),.int (20 + d3)]):=Ab;generalize upd (upd (upd H1 p (.lst (A1 a2 b2 c2))) p (.lst (A1 a3 b3 c3))) L1 (.lst [.int (1 + d2),.int (20 + d3)])=H2 at P2 k2 Xc ⊢;obtain ⟨n,hn,n1,YH⟩:∃ n:Nat,Gv [V.int (1 + d2),.int (20 + d3)] wv=some (.int (n:Int))/\1<=n/\n<=26:=by
   rcases Xx with rfl | rfl
   ·exact ⟨(1 + d2).toNat,by rw [eV (by lia)]; rfl,by lia,by lia⟩
   ·exact ⟨(20 + d3).toNat,by rw [eV (by lia)]; rfl,by lia,by lia⟩
  refine ⟨_,rfl,L1,_,_,_,rfl,rfl,AZ.of Xc,hn,p,n,rfl,P2,YH,fun H3 D xs P3 k3 hDn hD xl xnd xnm=>?_⟩;have nDp:D ≠ p:=P2.ne hDn;refine ⟨_,_,rfl,rfl,⟨by decide,by decide,by decide⟩,_,_,rfl,rfl,⟨by decide,by decide,by decide⟩,(by show 6<=sizeLine; lia),fun L2 Q7=>?_⟩;have s3:=Ad (o:=.lst [.int 1,.int 1,.int 1,.int 1,.int (10 ^ (9:Int).toNat),.int (10 ^ (20:Int).toNat)]) Q7;refine ⟨_,rfl,p,6,rfl,P3.same s3,by decide,CM (by decide),fun d4 a4 b4 c4 d40 d41=>?_⟩;obtain ⟨mu,hmu,XH,X9⟩:∃ mu:Int,Gv [V.int 1,.int 1,.int 1,.int 1,.int (10 ^ (9:Int).toNat),.int (10 ^ (20:Int).toNat)] d4=some (.int mu)/\1<=mu/\mu<=10 ^ 20:=by
   have:d4=0\/d4=1\/d4=2\/d4=3\/d4=4\/d4=5:=by lia
   rcases this with rfl | rfl | rfl | rfl | rfl | rfl <;> exact ⟨_,rfl,by decide,by decide⟩
  have nL2:L2 ≠ p:=P3.ne Q7;have k4:A9 p H3 (upd (upd H3 L2 (.lst [.int 1,.int 1,.int 1,.int 1,.int (10 ^ (9:Int).toNat),.int (10 ^ (20:Int).toNat)])) p (.lst (A1 a4 b4 c4))):=(A9.of_same s3).trans A9.upd;have P4:A6 (upd (upd H3 L2 (.lst [.int 1,.int 1,.int 1,.int 1,.int (10 ^ (9:Int).toNat),.int (10 ^ (20:Int).toNat)])) p (.lst (A1 a4 b4 c4))) p:=A6.set _ _ _;have Xb:(upd (upd H3 L2 (.lst [.int 1,.int 1,.int 1,.int 1,.int (10 ^ (9:Int).toNat),.int (10 ^ (20:Int).toNat)])) p (.lst (A1 a4 b4 c4))) L2=some (.lst [.int 1,.int 1,.int 1,.int 1,.int (10 ^ (9:Int).toNat),.int (10 ^ (20:Int).toNat)]):=by rw [Ae nL2,Ab]
  generalize upd (upd H3 L2 (.lst [.int 1,.int 1,.int 1,.int 1,.int (10 ^ (9:Int).toNat),.int (10 ^ (20:Int).toNat)])) p (.lst (A1 a4 b4 c4))=H4 at k4 P4 Xb ⊢;exists L2,_,_,_,rfl,rfl,AZ.of Xb,hmu;have hD4:=k4 _ _ nDp hD;refine ⟨_,rfl,_,rfl,_,rfl,p,D,xs,kd,rfl,P4,hD4,nDp,xnd,xnm,by lia,by lia,fun H5 T us ws Gu P5 k5 hT dus wp wc w9 wl=>?_⟩;have nTp:T ≠ p:=by intro z; subst z; obtain ⟨_,_,_,z⟩:=P5; rw [z] at hT; cases hT
  have ul:=dus.len;rw [ZA] at ul;have wlen:ws.length=Gu.length:=by rw [wp.length_eq,ZA]
  exists T,rfl,⟨_,Ay.of hT⟩
  refine AX Be (xs:=us) (fun C i σ H' acc=>∃ v:Option V,σ=[v,some (.int mu)]/\Aq H5 H'/\H' C=some (.lst acc)/\AE H' acc (((ws.take i).map (F1 mu)).map Ee)/\acc.length=i)
   (by lia) (fun C hC=>⟨_,rfl,Ad hC,Ab,.nil,rfl⟩) (fun C i σ H' acc hC ⟨v,_,sa,hCC,_,al⟩=>⟨Ay.of (sa _ _ hT),hCC,al⟩) ?_ ?_
  ·rintro C i σ H' acc x B hC ex ⟨v,rfl,sa,hCC,dd,al⟩ hB;obtain ⟨u,tt,eu,rfl,htt⟩:=EO dus ex;have W8:=sa _ _ htt;refine ⟨_,rfl,_,rfl,tt,_,rfl,Ay.of W8,(by show ¬ ((0:Nat)=0/\(2:Nat)=3); decide),fun Z hZ=>?_⟩;have q1:=Ad (o:=.tup (J1 [.str u.1,.str u.2.1,.int u.2.2] none (some 2))) hZ;have hZ':(upd H' Z (.tup (J1 [.str u.1,.str u.2.1,.int u.2.2] none (some 2)))) Z=some (.tup [.str u.1,.str u.2.1]):=Ab;generalize upd H' Z (.tup (J1 [.str u.1,.str u.2.1,.int u.2.2] none (some 2)))=H6 at q1 hZ' ⊢;have ub:1<=u.2.2/\u.2.2<=9:=by
    obtain ⟨u0,W7,e⟩:=ZO.mp (wp.mem_iff.mp (ZE eu));have e2:u.2.2=u0.2.2:=by rw [<-e]; rfl
    rw [e2];exact ⟨(wc.1 u0 W7).2.2.2,w9 u0 W7⟩
   refine ⟨_,rfl,tt,_,_,_,rfl,rfl,Ay.of (q1 _ _ W8),rfl,_,rfl,_,_,rfl,rfl,.inl ⟨by lia,by lia⟩,(by show 1<=sizeLine; lia),fun Y hY=>?_⟩;have q2:=Ad (o:=.tup [.int (u.2.2 * mu)]) hY;have hY':(upd H6 Y (.tup [.int (u.2.2 * mu)])) Y=some (.tup [.int (u.2.2 * mu)]):=Ab;generalize upd H6 Y (.tup [.int (u.2.2 * mu)])=H7 at q2 hY' ⊢;refine ⟨Z,Y,_,_,rfl,rfl,Ay.of (q2 _ _ hZ'),Ay.of hY',by simp,(by show 2 + 1<=sizeLine; lia),fun z=>absurd z (by simp),fun _ X hX=>?_⟩;have q3:=Ad (o:=.tup ([.str u.1,.str u.2.1] ++ [.int (u.2.2 * mu)])) hX;have Ye:(upd H7 X (.tup ([.str u.1,.str u.2.1] ++ [.int (u.2.2 * mu)]))) X=some (.tup [.str u.1,.str u.2.1,.int (u.2.2 * mu)]):=Ab;generalize upd H7 X (.tup ([.str u.1,.str u.2.1] ++ [.int (u.2.2 * mu)]))=H8 at q3 Ye ⊢;have q:=q1.trans (q2.trans q3);have c8:=q _ _ hCC;have nX:X ≠ C:=by intro z; subst z; rw [c8] at Ye; cases Ye
   refine hB _ _ _ c8 ⟨_,rfl,fun b o e=>by rw [Ae (Ah e hC)]; exact q _ _ (sa _ _ e),Ab,?_,by rw [ZH,al]; rfl⟩;rw [ZR,eu,ZG,ZG];refine CG (Dn dd fun b ys e=>?_) (.cons (.tup (by rw [Ae nX]; exact Ye) (.cons (.str _) (.cons (.str _) (.cons (.int _) .nil)))) .nil);rw [Ae (by intro z; subst z; rw [hCC] at e; cases e)];exact q _ _ e
  rintro W σ H6 acc hW ⟨v,rfl,Y5,hWW,dW,wal⟩;rw [ul,ZY] at dW;have nWp:W ≠ p:=P5.ne hW;have P6:=P5.same Y5;refine ⟨(by show 4<=sizeLine; lia),fun L3 Q6=>?_⟩;have s6:=Ad (o:=.lst [.int 1,.int 4,.int 12,.int 40]) Q6;refine ⟨_,rfl,p,4,rfl,P6.same s6,by decide,CM (by decide),fun d5 a5 b5 c5 d50 d51=>?_⟩;obtain ⟨de,hde,de1,de2⟩:∃ de:Int,Gv [V.int 1,.int 4,.int 12,.int 40] d5=some (.int de)/\1<=de/\de<=40:=by
   have:d5=0\/d5=1\/d5=2\/d5=3:=by lia
   rcases this with rfl | rfl | rfl | rfl <;> exact ⟨_,rfl,by decide,by decide⟩
  have nL3:L3 ≠ p:=P6.ne Q6;have k7:A9 p H6 (upd (upd H6 L3 (.lst [.int 1,.int 4,.int 12,.int 40])) p (.lst (A1 a5 b5 c5))):=(A9.of_same s6).trans A9.upd;have P7:A6 (upd (upd H6 L3 (.lst [.int 1,.int 4,.int 12,.int 40])) p (.lst (A1 a5 b5 c5))) p:=A6.set _ _ _;have Xa:(upd (upd H6 L3 (.lst [.int 1,.int 4,.int 12,.int 40])) p (.lst (A1 a5 b5 c5))) L3=some (.lst [.int 1,.int 4,.int 12,.int 40]):=by rw [Ae nL3,Ab]
  generalize upd (upd H6 L3 (.lst [.int 1,.int 4,.int 12,.int 40])) p (.lst (A1 a5 b5 c5))=H7 at k7 P7 Xa ⊢;exists L3,_,_,_,rfl,rfl,AZ.of Xa,hde;have k47:A9 p H4 H7:=k5.trans ((A9.of_same Y5).trans k7);have hDxa:=k47 _ _ nDp hD4;obtain ⟨moa,hmoa,YJ,moa2⟩:∃ mo:Int,Gv [V.int 6,.int 3] wv=some (.int mo)/\1<=mo/\mo<=10:=by
   rcases Xx with rfl | rfl
   ·exact ⟨_,rfl,by decide,by decide⟩
   ·exact ⟨_,rfl,by decide,by decide⟩
  refine ⟨_,rfl,_,rfl,(by show 2<=sizeLine; lia),fun La hLa=>?_⟩;have sLa:=Ad (o:=.lst [V.int 6,.int 3]) hLa;have WZ:(upd H7 La (.lst [V.int 6,.int 3])) La=some (.lst [V.int 6,.int 3]):=Ab;have PLa:=P7.same sLa;have hDa:=sLa _ _ hDxa;generalize upd H7 La (.lst [V.int 6,.int 3])=HLa at sLa WZ PLa hDa;refine ⟨_,rfl,La,_,_,_,rfl,rfl,AZ.of WZ,hmoa,p,D,xs,moa,rfl,PLa,hDa,nDp,by lia,by lia,YJ,by lia,fun Ha Da ysa zsa Pa ka fa da pma l1a l2a=>?_⟩;have nDa:Da ≠ p:=PLa.ne fa;exists Da,rfl,⟨_,AZ.of da⟩
  have ysuba:∀ y ∈ ysa,y ∈ xs:=fun y hy=>pma.mem_iff.mp (aT _ hy)
  have ynda:ysa.Nodup:=(ba.mp (pma.nodup_iff.mpr xnd)).1;refine AX C2 (xs:=ysa.map V.str) (fun D i σ H' acc=>∃ (v:Option V) (rs:List AY),σ=[v,some (.ref p),some (.int mu),some (.int de)]/\A6 H' p/\(∀ b o,b ≠ p->Ha b=some o->H' b=some o)/\H' D=some (.lst acc)/\AE H' acc (rs.map Cm)/\acc.length=i/\rs.map (·.1)=ysa.take i/\∀ r ∈ rs,0<=r.2/\r.2 < 10 ^ 30)
   (by rw [ZA]; lia) (fun D hD=>⟨_,[],rfl,Pa.other (Pa.ne hD),fun b o hb e=>Ad hD _ _ e,Ab,.nil,rfl,rfl,fun r hr=>(nomatch hr)⟩)
   (fun D i σ H' acc hD ⟨v,rs,_,_,kp,AK,_,al,_⟩=>⟨AZ.of (kp _ _ nDa da),AK,al⟩) ?_ ?_
  ·rintro D i σ H' acc x B hD ex ⟨v,rs,rfl,P2,k2,d2,dd,al,rt,rl⟩ hB;obtain ⟨y,ey,rfl⟩:∃ y,ysa[i]? = some y/\x=.str y:=by
    rw [ZL] at ex;cases z:ysa[i]? with
    | none=>rw [z] at ex; cases ex
    | some y=>rw [z] at ex; exact ⟨y,rfl,(ZZ.inj ex).symm⟩
   have nD:D ≠ p:=Pa.ne hD;refine ⟨_,rfl,_,rfl,_,rfl,_,rfl,p,de,rfl,P2,by lia,CM (by lia),fun l' a b c la lb=>⟨_,_,rfl,rfl,.inr ⟨by lia,by lia⟩,?_⟩⟩;have hl:0<=mu * l'/\mu * l' < 10 ^ 30:=by
    have h1:0<=mu * l':=dM (by lia) la;have h2:mu * l'<=10 ^ 20 * 40:=cR X9 (by lia) la (by decide);have h3:(10:Int) ^ 20 * 40 < 10 ^ 30:=by decide
    exact ⟨h1,by lia⟩
   refine ⟨(by show 2<=sizeLine; lia),fun T hT=>?_⟩;have d3:(upd (upd H' p (.lst (A1 a b c))) T (.tup [.str y,.int (mu * l')])) D=some (.lst acc):=Ad hT _ _ (by rw [Ae nD]; exact d2);have nT:T ≠ D:=by intro z; subst z; rw [Ae nD,d2] at hT; cases hT
   have nTp:T ≠ p:=(A6.set (H:=H') (p:=p) a b c).ne hT;refine hB _ _ _ d3 ⟨_,rs ++ [(y,mu * l')],rfl,((A6.set a b c).other nTp).other nD,fun b' o hb e=>?_,Ab,?_,by rw [ZH,al]; rfl,?_,fun r hr=>?_⟩
   ·rw [Ae (Ah e hD)];exact Ad hT _ _ (by rw [Ae hb]; exact k2 b' o hb e)
   ·rw [ZG];refine CG (Bi dd fun b' ys e=>?_) (.cons (FV (u:=(y,mu * l')) (by rw [Ae nT]; exact Ab)) .nil);rw [Ae (by intro z; subst z; rw [d2] at e; cases e)];exact Ad hT _ _ (by rw [Ae (by intro z; subst z; obtain ⟨_,_,_,z⟩:=P2; rw [z] at e; cases e)]; exact e)
   ·rw [ZG,rt,ZR,ey];rfl
   ·rcases af.mp hr with hr | hr
    ·exact rl r hr
    ·rw [aa] at hr;subst hr;exact hl
  rintro Sa σa HSa usa hSa ⟨va,rsa,rfl,PSa,kSa,dSa,dda,ala,rta,rla⟩;have rlena:rsa.length=ysa.length:=by
   have:=congrArg b9 rta;rw [ZA,ah,ZA,gq] at this;exact this
  rw [ZA,ZY] at rta;have nSa:Sa ≠ p:=Pa.ne hSa;have qa:A9 p HLa HSa:=fun b o hb e=>kSa b o hb (ka b o hb e)
  refine ⟨Sa,usa,rsa,rfl,AZ.of dSa,dda,fun la wsa UX hla ddda pmsa=>?_⟩;have sa:=Ad (o:=.lst wsa) hla;have hLLa:(upd HSa la (.lst wsa)) la=some (.lst wsa):=Ab;have PTa:=PSa.same sa;have dTa:AE (upd HSa la (.lst wsa)) wsa (UX.map Cm):=Bi ddda (fun b ys z=>sa _ _ z);generalize upd HSa la (.lst wsa)=HTa at sa hLLa PTa dTa;have nla:la ≠ p:=PSa.ne hla;have qTa:A9 p HLa HTa:=qa.trans (A9.of_same sa);have oka:DP xs 0 rsa:=⟨fun r hr=>ysuba _ (by rw [<-rta]; exact eR hr),by rw [rta]; exact ynda,rla,by lia⟩
  have hDxb:HTa D=some (.lst (xs.map V.str)):=qTa _ _ nDp hDa;obtain ⟨mob,hmob,YI,mob2⟩:∃ mo:Int,Gv [V.int 8,.int 25] wv=some (.int mo)/\1<=mo/\mo<=30:=by
   rcases Xx with rfl | rfl
   ·exact ⟨_,rfl,by decide,by decide⟩
   ·exact ⟨_,rfl,by decide,by decide⟩
  refine ⟨_,rfl,_,rfl,(by show 2<=sizeLine; lia),fun Lb hLb=>?_⟩;have sLb:=Ad (o:=.lst [V.int 8,.int 25]) hLb;have WY:(upd HTa Lb (.lst [V.int 8,.int 25])) Lb=some (.lst [V.int 8,.int 25]):=Ab;have PLb:=PTa.same sLb;have hDb:=sLb _ _ hDxb;generalize upd HTa Lb (.lst [V.int 8,.int 25])=HLb at sLb WY PLb hDb;refine ⟨_,rfl,Lb,_,_,_,rfl,rfl,AZ.of WY,hmob,p,D,xs,mob,rfl,PLb,hDb,nDp,by lia,by lia,YI,by lia,fun Hb Db ysb zsb Pb kb fb db pmb l1b l2b=>?_⟩;have nDb:Db ≠ p:=PLb.ne fb;exists Db,rfl,⟨_,AZ.of db⟩
  have ysubb:∀ y ∈ ysb,y ∈ xs:=fun y hy=>pmb.mem_iff.mp (aT _ hy)
  have yndb:ysb.Nodup:=(ba.mp (pmb.nodup_iff.mpr xnd)).1;refine AX C2 (xs:=ysb.map V.str) (fun D i σ H' acc=>∃ (v:Option V) (rs:List AY),σ=[v,some (.ref p)]/\A6 H' p/\(∀ b o,b ≠ p->Hb b=some o->H' b=some o)/\H' D=some (.lst acc)/\AE H' acc (rs.map Cm)/\acc.length=i/\rs.map (·.1)=ysb.take i/\∀ r ∈ rs,1<=r.2/\r.2<=4)
   (by rw [ZA]; lia) (fun D hD=>⟨_,[],rfl,Pb.other (Pb.ne hD),fun b o hb e=>Ad hD _ _ e,Ab,.nil,rfl,rfl,fun r hr=>(nomatch hr)⟩)
   (fun D i σ H' acc hD ⟨v,rs,_,_,kp,AK,_,al,_⟩=>⟨AZ.of (kp _ _ nDb db),AK,al⟩) ?_ ?_
  ·rintro D i σ H' acc x B hD ex ⟨v,rs,rfl,P2,k2,d2,dd,al,rt,rl⟩ hB;obtain ⟨y,ey,rfl⟩:∃ y,ysb[i]? = some y/\x=.str y:=by
    rw [ZL] at ex;cases z:ysb[i]? with
    | none=>rw [z] at ex; cases ex
    | some y=>rw [z] at ex; exact ⟨y,rfl,(ZZ.inj ex).symm⟩
   have nD:D ≠ p:=Pb.ne hD;refine ⟨_,rfl,_,rfl,p,4,rfl,P2,by decide,CM (by decide),fun l' a b c la lb=>⟨_,_,rfl,rfl,?_⟩⟩;have hl:1<=1 + l'/\1 + l'<=4:=⟨by lia,by lia⟩
   refine ⟨(by show 2<=sizeLine; lia),fun T hT=>?_⟩;have d3:(upd (upd H' p (.lst (A1 a b c))) T (.tup [.str y,.int (1 + l')])) D=some (.lst acc):=Ad hT _ _ (by rw [Ae nD]; exact d2);have nT:T ≠ D:=by intro z; subst z; rw [Ae nD,d2] at hT; cases hT
   have nTp:T ≠ p:=(A6.set (H:=H') (p:=p) a b c).ne hT;refine hB _ _ _ d3 ⟨_,rs ++ [(y,1 + l')],rfl,((A6.set a b c).other nTp).other nD,fun b' o hb e=>?_,Ab,?_,by rw [ZH,al]; rfl,?_,fun r hr=>?_⟩
   ·rw [Ae (Ah e hD)];exact Ad hT _ _ (by rw [Ae hb]; exact k2 b' o hb e)
   ·rw [ZG];refine CG (Bi dd fun b' ys e=>?_) (.cons (FV (u:=(y,1 + l')) (by rw [Ae nT]; exact Ab)) .nil);rw [Ae (by intro z; subst z; rw [d2] at e; cases e)];exact Ad hT _ _ (by rw [Ae (by intro z; subst z; obtain ⟨_,_,_,z⟩:=P2; rw [z] at e; cases e)]; exact e)
   ·rw [ZG,rt,ZR,ey];rfl
   ·rcases af.mp hr with hr | hr
    ·exact rl r hr
    ·rw [aa] at hr;subst hr;exact hl
  rintro Sb σb HSb usb hSb ⟨vb,rsb,rfl,PSb,kSb,dSb,ddb,alb,rtb,rlb⟩;have rlenb:rsb.length=ysb.length:=by
   have:=congrArg b9 rtb;rw [ZA,ah,ZA,gq] at this;exact this
  rw [ZA,ZY] at rtb;have nSb:Sb ≠ p:=Pb.ne hSb;have qb:A9 p HLb HSb:=fun b o hb e=>kSb b o hb (kb b o hb e)
  refine ⟨Sb,usb,rsb,rfl,AZ.of dSb,ddb,fun lb wsb UW hlb dddb pmsb=>?_⟩;have sb:=Ad (o:=.lst wsb) hlb;have hLLb:(upd HSb lb (.lst wsb)) lb=some (.lst wsb):=Ab;have PTb:=PSb.same sb;have dTb:AE (upd HSb lb (.lst wsb)) wsb (UW.map Cm):=Bi dddb (fun b ys z=>sb _ _ z);generalize upd HSb lb (.lst wsb)=HTb at sb hLLb PTb dTb;have nlb:lb ≠ p:=PSb.ne hlb;have qTb:A9 p HLb HTb:=qb.trans (A9.of_same sb);have ten:(4:Int) < 10 ^ 30:=by decide
  have okb:DP xs 1 rsb:=⟨fun r hr=>ysubb _ (by rw [<-rtb]; exact eR hr),by rw [rtb]; exact yndb,fun r hr=>⟨(rlb r hr).1,by have:=(rlb r hr).2; lia⟩,by lia⟩
  have Zl:=rlena;have hla:∀ b o,b ≠ p->HTa b=some o->HTb b=some o:=fun b o hb e=>qTb b o hb (sLb _ _ e)
  have wsl:wsa.length=rsa.length:=by rw [dTa.len,ZA,pmsa.length_eq]
  refine ⟨_,rfl,_,rfl,la,_,rfl,.inl (AZ.of (hla _ _ nla hLLa)),_,_,rfl,rfl,p,(wsa.length:Int) + 1,rfl,PTb,by lia,CM (by lia),fun d6 a6 b6 c6 d60 d61=>⟨_,_,rfl,rfl,(by show 2<=sizeLine; lia),fun L4 hL4=>?_⟩⟩;have P8:A6 (upd (upd HTb p (.lst (A1 a6 b6 c6))) L4 (.lst [.non,.int (1 + d6)])) p:=(A6.set a6 b6 c6).same (Ad hL4);have k8:A9 p HTb (upd (upd HTb p (.lst (A1 a6 b6 c6))) L4 (.lst [.non,.int (1 + d6)])):=A9.upd.trans (A9.of_same (Ad hL4));have Ts:(upd (upd HTb p (.lst (A1 a6 b6 c6))) L4 (.lst [.non,.int (1 + d6)])) L4=some (.lst [.non,.int (1 + d6)]):=Ab;generalize upd (upd HTb p (.lst (A1 a6 b6 c6))) L4 (.lst [.non,.int (1 + d6)])=H8 at P8 k8 Ts ⊢;have nL4:L4 ≠ p:=by intro z; subst z; obtain ⟨_,_,_,z⟩:=P8; rw [z] at Ts; cases Ts
  refine ⟨_,rfl,p,2,rfl,P8,by decide,CM (by decide),fun d7 a7 b7 c7 d70 d71=>?_⟩;obtain ⟨x,dx,hx,lim⟩:∃ (x:V) (dx:PyData),Gv [V.non,.int (1 + d6)] d7=some x/\Lim x dx:=by
   have:d7=0\/d7=1:=by lia
   have ten2:(100:Int) < 10 ^ 30:=by decide
   rcases this with rfl | rfl
   ·exact ⟨_,_,rfl,.inl ⟨rfl,rfl⟩⟩
   ·exact ⟨_,_,rfl,.inr ⟨_,rfl,rfl,by lia,by lia⟩⟩
  have k9:A9 p HTb (upd H8 p (.lst (A1 a7 b7 c7))):=k8.trans A9.upd;have P9:A6 (upd H8 p (.lst (A1 a7 b7 c7))) p:=A6.set _ _ _;have hL9:(upd H8 p (.lst (A1 a7 b7 c7))) L4=some (.lst [.non,.int (1 + d6)]):=by rw [Ae nL4]; exact Ts
  generalize upd H8 p (.lst (A1 a7 b7 c7))=H9 at k9 P9 hL9 ⊢;exists L4,_,_,x,rfl,rfl,AZ.of hL9,hx;have W4:A9 p HTa H9:=fun b o hb e=>k9 _ _ hb (hla _ _ hb e)
  have Um:A9 p H6 H9:=k7.trans ((A9.of_same sLa).trans (qTa.trans W4));have hD9:H9 D=some (.lst (xs.map V.str)):=W4 _ _ nDp hDxb;have Zm:H9 W=some (.lst acc):=Um _ _ nWp hWW;have dW9:AE H9 acc ((ws.map (F1 mu)).map Ee):=Dn dW (F0 P6 Um);have hA9:H9 la=some (.lst wsa):=W4 _ _ nla hLLa;have dA9:AE H9 wsa (UX.map Cm):=Bi dTa (F0 PTa W4);have hB9:H9 lb=some (.lst wsb):=k9 _ _ nlb hLLb;have dB9:AE H9 wsb (UW.map Cm):=Bi dTb (F0 PTb k9);have kp9:A9 p H H9:=k1.trans (k2.trans (k3.trans (k4.trans (k5.trans ((A9.of_same Y5).trans Um)))));clear hla W4 Um k9;refine ⟨_,rfl,D,xs,rfl,AZ.of hD9,by lia,fun l1 ps JS pp so=>⟨l1,_,rfl,.inl ⟨AZ.of Ab,fun T1 Tq=>?_⟩⟩⟩;have r1:=(Ad (o:=.lst (ps.map V.str)) JS).trans (Ad (o:=.tup (ps.map V.str)) Tq);have Tp:(upd (upd H9 l1 (.lst (ps.map V.str))) T1 (.tup (ps.map V.str))) T1=some (.tup (ps.map V.str)):=Ab;generalize upd (upd H9 l1 (.lst (ps.map V.str))) T1 (.tup (ps.map V.str))=Oa at r1 Tp ⊢;refine ⟨_,rfl,W,_,rfl,.inl ⟨AZ.of (r1 _ _ Zm),fun T2 Q5=>?_⟩⟩;have r2:=Ad (o:=.tup acc) Q5;have WQ:(upd Oa T2 (.tup acc)) T2=some (.tup acc):=Ab;generalize upd Oa T2 (.tup acc)=QA at r2 WQ ⊢;refine ⟨(by show 2<=sizeLine; lia),fun M hM=>?_⟩;have r3:=Ad (o:=.tup [.ref T1,.ref T2]) hM;have hM':(upd QA M (.tup [.ref T1,.ref T2])) M=some (.tup [.ref T1,.ref T2]):=Ab;generalize upd QA M (.tup [.ref T1,.ref T2])=H12 at r3 hM' ⊢;have YA:=r1.trans (r2.trans r3);refine ⟨_,rfl,la,_,rfl,.inl ⟨AZ.of (YA _ _ hA9),fun T3 Zq=>?_⟩⟩;have r4:=Ad (o:=.tup wsa) Zq;have WN:(upd H12 T3 (.tup wsa)) T3=some (.tup wsa):=Ab;generalize upd H12 T3 (.tup wsa)=H13 at r4 WN ⊢;refine ⟨_,rfl,lb,_,rfl,.inl ⟨AZ.of (r4 _ _ (YA _ _ hB9)),fun T4 Yf=>?_⟩⟩;have r5:=Ad (o:=.tup wsb) Yf;have WM:(upd H13 T4 (.tup wsb)) T4=some (.tup wsb):=Ab;generalize upd H13 T4 (.tup wsb)=H14 at r5 WM ⊢;refine ⟨_,rfl,(by show 4<=sizeLine; lia),fun U hU=>?_⟩;have r6:=Ad (o:=.tup [.ref M,.ref T3,.ref T4,x]) hU;have hU':(upd H14 U (.tup [.ref M,.ref T3,.ref T4,x])) U=some (.tup [.ref M,.ref T3,.ref T4,x]):=Ab;generalize upd H14 U (.tup [.ref M,.ref T3,.ref T4,x])=H15 at r6 hU' ⊢;have X4:=r4.trans (r5.trans r6);have Ws:=YA.trans X4;have pl:=pp.length_eq;have mw:Gr H15 M ps.length ps (ws.map (F1 mu)):=Qa XH X9 (X4 _ _ hM') (X4 _ _ (r3 _ _ (r2 _ _ Tp))) (X4 _ _ (r3 _ _ WQ)) (Dn dW9 fun b ys z=>Ws _ _ z) pp so xnd xnm wp wc w9 wl;refine k H15 U M ps.length ps _ UX UW x dx (P9.same Ws) (kp9.trans (A9.of_same Ws)) ⟨⟨T3,T4,wsa,wsb,hU',r6 _ _ (r5 _ _ WN),Bi dA9 (fun b ys z=>Ws _ _ z),r6 _ _ WM,Bi dB9 (fun b ys z=>Ws _ _ z)⟩,mw,by lia,by lia,(oka.perm pmsa).names pp,(okb.perm pmsb).names pp,?_,?_,lim⟩ fun r hr=>(rlb r (pmsb.mem_iff.mp hr)).2
  ·rw [pmsa.length_eq]; lia
  ·rw [pmsb.length_eq]; lia
end
section
variable {P:Program} {w:World} {K:ZD} {mg:Str->Option Value} {base:Heap}
theorem Mt (h_int:mg "int"=none) {f:Addr} {fd:FuncData} (F:Dm K "_law_fars" "_law_fars" Ej f fd):A8 P w K mg base Bt 1 f fd ["_law_case_here"] Ov:=by
 refine F.ok Hk (fun vs H Q E h=>?_) (fun cdv A outer s H vs Q E hr h=>?_)
 ·obtain ⟨cc,q,n,xs,ws,Ap,Ar,x,d,rfl,_⟩:=h;rfl
 ·obtain ⟨cc,q,n,xs,ws,Ap,Ar,x,d,rfl,cw,k⟩:=h;have hu:=CN hr;have nd:=Hk.nd;have big:16000000 < sizeLine:=by decide
  have two:2<=sizeLine:=by decide
  have mw:=cw.map;have X8:=cw.n1;have SX:=cw.n30;obtain ⟨c1,c2,D3,EX,hcc,_⟩:=cw.ex;obtain ⟨r0,okw,pos,uni⟩:=mw.web X8 SX;obtain ⟨D,e,us,hq,hD,hE,hW⟩:=mw.at'.ex;have ends:=okw.ends;have x30:xs.length<=30:=okw.l30;have w64:=okw.l64;have wof:∀ u ∈ ws,u.1 ∈ xs/\u.2.1 ∈ xs/\u.1 ≠ u.2.1/\1<=u.2.2:=fun u hu=>⟨(ends u hu).1,(ends u hu).2,mw.apart hu,pos u hu⟩
  have hwl:us.length=ws.length:=by rw [Jz hW,ZA]
  refine ⟨_,(Af (Dr (Az (A7 K rfl) (pv 0) Ag (fun _ _=>rfl)) (AO K rfl rfl (Aj (Ai (i:=1) nd rfl (Or.inl rfl)) (Aj (Ai (i:=2) nd rfl (Or.inl rfl)) AN))))
  (Af (Ao (i:=3) nd rfl (Or.inl rfl) R1)
  (Af (BC PassesOwn.never rfl (AR K rfl (pv 1)) (Ai (i:=4) nd rfl (Or.inl rfl))
  (Al (BC PassesOwn.never rfl (AR K rfl (pv 1)) (Ai (i:=5) nd rfl (Or.inl rfl))
  (Al (DG hu (pv 3) (AH (Aa (pv 4) (Aa (pv 5) Ac))) (Az (Ge K rfl) (Bw (Aa R0 (Aa Ag Ac))) (AA Dl (by rfl) h_int PyProof.Rows.boot_int (Aa (Ct Hu (pv 4) (pv 5) (Bx _)) Ac)) (fun _ _=>rfl)) rfl)))))
  (Af (BC PassesOwn.never rfl (AR K rfl (pv 2)) (AO K rfl rfl (Aj (Ai (i:=4) nd rfl (Or.inl rfl)) (Aj (Ai (i:=5) nd rfl (Or.inl rfl)) (Aj (Ai (i:=6) nd rfl (Or.inl rfl)) AN))))
  (Af (DG hu (pv 3) (AH (Aa (pv 4) (Aa (pv 5) Ac))) (pv 6) rfl)
  (Al (DG hu (pv 3) (AH (Aa (pv 5) (Aa (pv 4) Ac))) (pv 6) rfl))))
  (Af (BC PassesOwn.never rfl (AR K rfl (pv 1)) (Ai (i:=7) nd rfl (Or.inl rfl))
  (Al (BC PassesOwn.never rfl (AR K rfl (pv 1)) (Ai (i:=4) nd rfl (Or.inl rfl))
  (Al (BC PassesOwn.never rfl (AR K rfl (pv 1)) (Ai (i:=5) nd rfl (Or.inl rfl))
  (Al (Cr (Nr (F3 (Ih (AW hu (pv 3) (AH (Aa (pv 4) (Aa (pv 7) Ac))) (fun _ _=>rfl)))) (O2 (F3 (Ih (AW hu (pv 3) (AH (Aa (pv 7) (Aa (pv 5) Ac))) (fun _ _=>rfl)))))).pt
  (Af (Ao (i:=8) nd rfl (Or.inl rfl) (As Bg (AW hu (pv 3) (AH (Aa (pv 4) (Aa (pv 7) Ac))) (fun _ _=>rfl)) (AW hu (pv 3) (AH (Aa (pv 7) (Aa (pv 5) Ac))) (fun _ _=>rfl))))
  (Al (Cr (Hr (F3 (G4 (AW hu (pv 3) (AH (Aa (pv 4) (Aa (pv 5) Ac))) (fun _ _=>rfl)))) (EH (By O8 (pv 8) (AW hu (pv 3) (AH (Aa (pv 4) (Aa (pv 5) Ac))) (fun _ _=>rfl)) (Bx _)))).pt
  (Al (DG hu (pv 3) (AH (Aa (pv 4) (Aa (pv 5) Ac))) (pv 8) rfl))
  Bo)))
  Bo)))))))
  (Al (A4 (pv 3)))))))),?_⟩
  exists _,rfl,cc,_,_,_,rfl,rfl,Ay.of hcc,rfl,q,_,rfl,Ay.of hq,rfl,_,_,rfl,_,_,rfl,rfl;intro A hA;have V0:MV (upd H A (.dT [])) A (fun _ _=>none) 0:=⟨[],Ab,ZJ _,fun x y=>rfl⟩
  have nAD:∀ {b:Addr} {u:HO},H b=some u->b ≠ A:=fun z=>Ah z hA
  have strAt:∀ {i:Nat} {v:V},(xs.map V.str)[i]? = some v->∃ x,xs[i]? = some x/\v=.str x/\i < xs.length:=fun {i v} h=>by
   rw [ZL] at h;cases ex:xs[i]? with
   | none=>rw [ex] at h; cases h
   | some x=>rw [ex] at h; exact ⟨x,rfl,(ZZ.inj h).symm,(ZN.mp ex).1⟩
  refine ⟨_,rfl,D,rfl,⟨_,Ay.of (Ad hA _ _ hD)⟩,Cb (xs:=xs.map V.str) (fun i σ H2=>(∃ v4 v5 v6 v7 v8,σ=[some (.ref cc),some (.ref D),some (.ref e),some (.ref A),v4,v5,v6,v7,v8])/\Aq H H2/\∃ G,MV H2 A G (i * 30)/\(∀ x y v,G x y=some v->x ∈ xs/\y ∈ xs/\v=oI (if x=y then some 0 else none))/\∀ (a:Nat) x,a < i->xs[a]? = some x->∀ y ∈ xs,∃ v,G x y=some v)
   ⟨⟨_,_,_,_,_,rfl⟩,Ad hA,_,V0.up (ao _),fun x y v h=>(by cases h),fun j x hj=>absurd hj (b0 _)⟩ (fun i σ H2 _ hP=>Ay.of (hP.2.1 _ _ hD)) (fun i v σ H2 hv hP rt bk N hNi=>?_) (fun σ H2 hP=>?_)⟩
  ·obtain ⟨⟨v4,v5,v6,v7,v8,rfl⟩,s2,G0,hG0,m1,m2⟩:=hP;obtain ⟨one,eone,rfl,ilt⟩:=strAt hv;refine ⟨_,rfl,D,rfl,⟨_,Ay.of (s2 _ _ hD)⟩,Cb (xs:=xs.map V.str) (fun j σ H3=>(∃ v5 v6 v7 v8,σ=[some (.ref cc),some (.ref D),some (.ref e),some (.ref A),some (.str one),v5,v6,v7,v8])/\Aq H H3/\∃ G,MV H3 A G (i * 30 + j)/\(∀ x y v,G x y=some v->x ∈ xs/\y ∈ xs/\v=oI (if x=y then some 0 else none))/\(∀ (a:Nat) x,a < i->xs[a]? = some x->∀ y ∈ xs,∃ v,G x y=some v)/\∀ (b:Nat) y,b < j->xs[b]? = some y->∃ v,G one y=some v)
    ⟨⟨_,_,_,_,rfl⟩,s2,G0,hG0.up (by lia),m1,m2,fun b y hb=>absurd hb (b0 _)⟩ (fun i σ H3 _ hP=>Ay.of (hP.2.1 _ _ hD)) (fun j v σ H3 hv hP rt bk N hNj=>?_) (fun σ H3 hP=>?_)⟩
   ·obtain ⟨⟨v5,v6,v7,v8,rfl⟩,s3,G1,Yi,m3,m4,m5⟩:=hP;obtain ⟨oth,eoth,rfl,jlt⟩:=strAt hv;have cb:i * 30 + j < 16000000:=by
     have:i * 30<=30 * 30:=cS _ (by lia);lia
    refine ⟨(by show 2<=sizeLine; lia),fun L hL=>?_⟩;have q1:=Ad (o:=.lst [.non,.int 0]) hL;have hL':(upd H3 L (.lst [.non,.int 0])) L=some (.lst [.non,.int 0]):=Ab;generalize upd H3 L (.lst [.non,.int 0])=H4 at q1 hL' ⊢;have ix:Gv [V.non,.int 0] (if decide (V.str one=V.str oth)=true then 1 else 0)=some (oI (if one=oth then some 0 else none)):=by
     by_cases z:one=oth
     ·subst z;rw [if_pos (decide_eq_true rfl),if_pos rfl];rfl
     ·rw [if_neg (fun h=>z (by have:=of_decide_eq_true h; injection this)),if_neg z];rfl
    refine ⟨_,rfl,_,rfl,rfl,.inr ⟨_,rfl,L,_,_,_,rfl,rfl,AZ.of hL',ix,?_⟩⟩;refine ⟨_,rfl,_,rfl,_,rfl,two,fun t ht=>?_⟩;have q2:=q1.trans (Ad (o:=.tup [.str one,.str oth]) ht);obtain ⟨H5,dp,hG5,kvs,e5⟩:=(Yi.same q2).put (by lia) (v:=oI (if one=oth then some 0 else none)) (t:=t) (x:=one) (y:=oth) Ab;refine ⟨A,H5,rfl,dp,hNj _ _ ⟨⟨_,_,_,_,rfl⟩,fun b u z=>?_,_,hG5.up (by lia),fun x y v h=>?_,fun a x ha ex y hy=>?_,fun b y hb ey=>?_⟩⟩
    ·rw [e5,Ae (nAD z)];exact q2 _ _ (s3 _ _ z)
    ·unfold Nl at h;split at h
     ·rename_i hc
      obtain ⟨rfl,rfl⟩:=hc;cases h
      exact ⟨ZE eone,ZE eoth,rfl⟩
     ·exact m3 x y v h
    ·unfold Nl;split
     ·exact ⟨_,rfl⟩
     ·exact m4 a x ha ex y hy
    ·unfold Nl;split
     ·exact ⟨_,rfl⟩
     ·rename_i hc
      refine m5 b y ?_ ey;have:b ≠ j:=by
       rintro rfl;rw [eoth] at ey;exact hc ⟨rfl,(ZZ.inj ey).symm⟩
      lia
   ·obtain ⟨⟨v5,v6,v7,v8,rfl⟩,s3,G1,Yi,m3,m4,m5⟩:=hP;rw [ZA] at Yi m5;refine hNi _ _ ⟨⟨_,_,_,_,_,rfl⟩,s3,G1,Yi.up (by lia),m3,fun a x ha ex y hy=>?_⟩;by_cases ea:a=i
    ·subst ea;rw [eone] at ex;cases ex
     obtain ⟨b,hb,eb⟩:=ab hy;exact m5 b y hb (by rw [Z9 hb,eb])
    ·exact m4 a x (by lia) ex y hy
  obtain ⟨⟨v4,v5,v6,v7,v8,rfl⟩,s2,G,hG,m1,m2⟩:=hP;rw [ZA] at hG m2;obtain ⟨M,hMe⟩:∃ M:Str->Str->Option Int,M=fun x y=>if x=y/\x ∈ xs then some 0 else none:=⟨_,rfl⟩
  have hM:MO H2 A xs M 1000:=by
   refine ⟨G,hG.up (by lia),fun x hx y hy=>?_,fun x y hn=>?_⟩
   ·obtain ⟨a,ha,ea⟩:=ab hx;obtain ⟨v,hv⟩:=m2 a x ha (by rw [Z9 ha,ea]) y hy;rw [hv,(m1 x y v hv).2.2,hMe];by_cases z:x=y
    ·rw [if_pos z];show _=some (oI (if x=y/\x ∈ xs then some 0 else none))
     rw [if_pos ⟨z,hx⟩]
    ·rw [if_neg z];show _=some (oI (if x=y/\x ∈ xs then some 0 else none))
     rw [if_neg (fun h=>z h.1)]
   ·cases hg:G x y with
    | none=>rfl
    | some v=>exact absurd ⟨(m1 x y v hg).1,(m1 x y v hg).2.1⟩ hn
  have m1:∀ x y n,M x y=some n->x=y/\n=0:=fun x y n h=>by
   rw [hMe] at h;dsimp only at h;split at h
   ·rename_i hc
    cases h
    exact ⟨hc.1,rfl⟩
   ·cases h
  have Xo:∀ x ∈ xs,M x x=some 0:=fun x hx=>by
   rw [hMe];exact if_pos ⟨rfl,hx⟩
  refine ⟨_,rfl,e,rfl,⟨_,Ay.of (s2 _ _ hE)⟩,Cb (xs:=us) (fun i σ H3=>(∃ v4 v5 v6 v7 v8,σ=[some (.ref cc),some (.ref D),some (.ref e),some (.ref A),v4,v5,v6,v7,v8])/\Aq H H3/\∃ M,MO H3 A xs M (1000 + 2 * i)/\(∀ x y n,M x y=some n->(x=y/\n=0)\/BP ws x y n)/\(∀ x ∈ xs,M x x=some 0)/\∀ x y n,BP (ws.take i) x y n->M x y=some n)
   ⟨⟨_,_,_,_,_,rfl⟩,s2,M,(hM.up (by lia)),fun x y n h=>.inl (m1 x y n h),Xo,fun x y n h=>(by obtain ⟨u,hu,_⟩:=h; exact absurd hu ZI)⟩ (fun i σ H3 _ hP=>Ay.of (hP.2.1 _ _ hE)) (fun i v σ H3 hv hP rt bk N hN=>?_) (fun σ H3 hP=>?_)⟩
  ·obtain ⟨⟨v4,v5,v6,v7,v8,rfl⟩,s3,M,hM,n1,n2,n3⟩:=hP;obtain ⟨u,tt,gu,rfl,htt⟩:=EO hW hv;have um:=ZE gu;have une:u.1 ≠ u.2.1:=(wof u um).2.2.1;have hi:i < ws.length:=(ZN.mp gu).1;exists tt,_,rfl,Ay.of (s3 _ _ htt),rfl,_,_,rfl,_,_,rfl,_,_,rfl,rfl;refine ⟨_,rfl,_,rfl,_,rfl,_,rfl,two,fun t ht=>?_⟩;obtain ⟨H4,dp,hM4,kvs,e4⟩:=(hM.same (Ad (o:=.tup [.str u.1,.str u.2.1]) ht)).put (by lia) (wof u um).1 (wof u um).2.1 (n:=u.2.2) (t:=t) (x:=u.1) (y:=u.2.1) Ab;have s4:Aq H H4:=fun b o z=>by
    rw [e4,Ae (nAD z)];exact Ad ht _ _ (s3 _ _ z)
   exists A,H4,rfl,dp;refine ⟨_,rfl,_,rfl,_,rfl,_,rfl,two,fun t2 DM=>?_⟩;obtain ⟨H5,dp2,hM5,kvs2,e5⟩:=(hM4.same (Ad (o:=.tup [.str u.2.1,.str u.1]) DM)).put (by lia) (wof u um).2.1 (wof u um).1 (n:=u.2.2) (t:=t2) (x:=u.2.1) (y:=u.1) Ab;refine ⟨A,H5,rfl,dp2,hN _ _ ⟨⟨_,_,_,_,_,rfl⟩,fun b o z=>?_,_,(hM5.up (by lia)),fun a b n h=>?_,fun x hx=>?_,fun a b n h=>?_⟩⟩
   ·rw [e5,Ae (nAD z)];exact Ad DM _ _ (s4 _ _ z)
   ·unfold KZ at h;split at h
    ·rename_i hc
     cases h
     exact .inr ⟨u,um,.inr ⟨hc.2.symm,hc.1.symm⟩,rfl⟩
    ·split at h
     ·rename_i hc
      cases h
      exact .inr ⟨u,um,.inl ⟨hc.1.symm,hc.2.symm⟩,rfl⟩
     ·exact n1 a b n h
   ·unfold KZ;rw [if_neg (fun z=>une (z.2.symm.trans z.1)),if_neg (fun z=>une (z.1.symm.trans z.2))];exact n2 x hx
   ·have hE':BP ws a b n:=by
     obtain ⟨v,hv,r⟩:=h;exact ⟨v,cO hv,r⟩
    unfold KZ;split
    ·rename_i hc
     have:=uni _ _ _ _ hE' ⟨u,um,.inr ⟨hc.2.symm,hc.1.symm⟩,rfl⟩;rw [this]
    ·rename_i hc1
     split
     ·rename_i hc
      have:=uni _ _ _ _ hE' ⟨u,um,.inl ⟨hc.1.symm,hc.2.symm⟩,rfl⟩;rw [this]
     ·rename_i So
      refine n3 a b n ?_;obtain ⟨v,hv,ev,el⟩:=h;rw [ZR,gu] at hv;rcases af.mp hv with hv | hv
      ·exact ⟨v,hv,ev,el⟩
      ·have:v=u:=by simpa using hv
       subst this;rcases ev with ⟨x1,x2⟩ | ⟨x1,x2⟩
       ·exact absurd ⟨x1.symm,x2.symm⟩ So
       ·exact absurd ⟨x2.symm,x1.symm⟩ hc1
  obtain ⟨⟨v4,v5,v6,v7,v8,rfl⟩,s3,M,hM,n1,n2,n3⟩:=hP;rw [hwl,ZY] at n3;have FW0:FW ws xs 0 M:=by
   refine ⟨fun x y n h=>?_,fun x y m g=>?_,fun x hx=>⟨0,n2 x hx,aV _⟩⟩
   ·rcases n1 x y n h with ⟨rfl,rfl⟩ | h
    ·exact .nil x
    ·have:=Bl.cons h (.nil y);rwa [cI] at this
   ·cases g with
    | edge e=>exact ⟨m,n3 x y m e,aV _⟩
    | cons _ h _=>exact absurd h ZI
  refine ⟨_,rfl,D,rfl,⟨_,Ay.of (s3 _ _ hD)⟩,Cb (xs:=xs.map V.str) (fun t σ H4=>(∃ v4 v5 v6 v7 v8,σ=[some (.ref cc),some (.ref D),some (.ref e),some (.ref A),v4,v5,v6,v7,v8])/\Aq H H4/\∃ M,MO H4 A xs M (2000 + t * 1000)/\FW ws xs t M)
   ⟨⟨_,_,_,_,_,rfl⟩,s3,M,(hM.up (by lia)),FW0⟩ (fun i σ H4 _ hP=>Ay.of (hP.2.1 _ _ hD)) (fun t v σ H4 hv hP rt bk N hNt=>?_) (fun σ H4 hP=>?_)⟩
  ·obtain ⟨⟨v4,v5,v6,v7,v8,rfl⟩,s4,M0,hM0,fw⟩:=hP;have strAt:∀ {i:Nat} {v:V},(xs.map V.str)[i]? = some v->∃ x,xs[i]? = some x/\v=.str x/\i < xs.length:=fun {i v} h=>by
    rw [ZL] at h;cases ex:xs[i]? with
    | none=>rw [ex] at h; cases h
    | some x=>rw [ex] at h; exact ⟨x,rfl,(ZZ.inj h).symm,(ZN.mp ex).1⟩
   obtain ⟨mid,emid,rfl,tlt⟩:=strAt hv;refine ⟨_,rfl,D,rfl,⟨_,Ay.of (s4 _ _ hD)⟩,Cb (xs:=xs.map V.str) (fun i σ H5=>(∃ v4 v5 v6 v8,σ=[some (.ref cc),some (.ref D),some (.ref e),some (.ref A),v4,v5,v6,some (.str mid),v8])/\Aq H H5/\∃ M,MO H5 A xs M (2000 + t * 1000 + i * 30)/\Gq M0 M/\(∀ x y n,M x y=some n->Bl ws x y n)/\∀ (a:Nat) x,a < i->xs[a]? = some x->∀ y ∈ xs,∀ p1 p2,M0 x mid=some p1->M0 mid y=some p2->∃ n,M x y=some n/\n<=p1 + p2)
    ⟨⟨_,_,_,_,rfl⟩,s4,M0,(hM0.up (by lia)),Gq.refl _,fw.sound,fun a x ha=>absurd ha (b0 _)⟩ (fun i σ H5 _ hP=>Ay.of (hP.2.1 _ _ hD)) (fun i v σ H5 hv hP rt bk N hNi=>?_) (fun σ H5 hP=>?_)⟩
   ·obtain ⟨⟨v4,v5,v6,v8,rfl⟩,s5,M1,V3,VU,Y2,Sz⟩:=hP;obtain ⟨one,eone,rfl,ilt⟩:=strAt hv;refine ⟨_,rfl,D,rfl,⟨_,Ay.of (s5 _ _ hD)⟩,Cb (xs:=xs.map V.str) (fun j σ H6=>(∃ v5 v6 v8,σ=[some (.ref cc),some (.ref D),some (.ref e),some (.ref A),some (.str one),v5,v6,some (.str mid),v8])/\Aq H H6/\∃ M,MO H6 A xs M (2000 + t * 1000 + i * 30 + j)/\Gq M1 M/\(∀ x y n,M x y=some n->Bl ws x y n)/\∀ (b:Nat) y,b < j->xs[b]? = some y->∀ p1 p2,M0 one mid=some p1->M0 mid y=some p2->∃ n,M one y=some n/\n<=p1 + p2)
     ⟨⟨_,_,_,rfl⟩,s5,M1,(V3.up (by lia)),Gq.refl _,Y2,fun b y hb=>absurd hb (b0 _)⟩ (fun i σ H6 _ hP=>Ay.of (hP.2.1 _ _ hD)) (fun j v σ H6 hv hP rt bk N hNj=>?_) (fun σ H6 hP=>?_)⟩
    ·obtain ⟨⟨v5,v6,v8,rfl⟩,s6,M2,Ql,VT,VQ,QL⟩:=hP;obtain ⟨oth,eoth,rfl,jlt⟩:=strAt hv;have cb:2000 + t * 1000 + i * 30 + j < 16000000:=by
      have:t * 1000<=30 * 1000:=cS _ (by lia);have:i * 30<=30 * 30:=cS _ (by lia);lia
     have moAll:=VU.trans VT;have keepM:∀ {H7:Hp} {v8':Option V},Aq H6 H7->(∀ p1 p2,M0 one mid=some p1->M0 mid oth=some p2->∃ n,M2 one oth=some n/\n<=p1 + p2) ->
       (∃ w5 w6 w8,([some (.ref cc),some (.ref D),some (.ref e),some (.ref A),some (.str one),some (.str oth),v6,some (.str mid),v8']:St)=[some (.ref cc),some (.ref D),some (.ref e),some (.ref A),some (.str one),w5,w6,some (.str mid),w8])/\Aq H H7/\∃ M,MO H7 A xs M (2000 + t * 1000 + i * 30 + (j + 1))/\Gq M1 M/\(∀ x y n,M x y=some n->Bl ws x y n)/\∀ (b:Nat) y,b < j + 1->xs[b]? = some y->∀ p1 p2,M0 one mid=some p1->M0 mid y=some p2->∃ n,M one y=some n/\n<=p1 + p2:=by
      intro H7 v8' s7 hv2;refine ⟨⟨_,_,_,rfl⟩,s6.trans s7,M2,((Ql.same s7).up (by lia)),VT,VQ,fun b y hb ey p1 p2 q1 q2=>?_⟩;by_cases eb:b=j
      ·subst eb;rw [eoth] at ey;cases ey
       exact hv2 p1 p2 q1 q2
      ·exact QL b y (by lia) ey p1 p2 q1 q2
     have hone:one ∈ xs:=ZE eone;have hoth:oth ∈ xs:=ZE eoth;have hmid:mid ∈ xs:=ZE emid;refine ⟨_,rfl,_,rfl,_,rfl,two,fun t1 Eb=>?_⟩;have z1:=Ad (o:=.tup [.str one,.str mid]) Eb;exists A,_,rfl,(Ql.same z1).get hone hmid Ab,_,rfl;cases eo:M2 one mid with
     | none=>
      refine BZ ?_;refine BZ ?_;refine hNj _ _ (keepM z1 fun p1 p2 q1 _=>?_);obtain ⟨n',e',_⟩:=moAll one mid p1 q1;rw [eo] at e';cases e'
     | some a1=>
      refine De ?_;refine ⟨_,rfl,_,rfl,_,rfl,two,fun t2 DM=>?_⟩;have z2:=z1.trans (Ad (o:=.tup [.str mid,.str oth]) DM);exists A,_,rfl,(Ql.same z2).get hmid hoth Ab,_,rfl;cases em:M2 mid oth with
      | none=>
       refine BZ ?_;refine hNj _ _ (keepM z2 fun p1 p2 _ q2=>?_);obtain ⟨n',e',_⟩:=moAll mid oth p2 q2;rw [em] at e';cases e'
      | some a2=>
       refine De ?_;refine ⟨_,rfl,_,rfl,_,rfl,two,fun t3 YY=>?_⟩;have z3:=z2.trans (Ad (o:=.tup [.str one,.str mid]) YY);have g3:=(Ql.same z3).get (x:=one) (y:=mid) (t:=t3) hone hmid Ab;rw [eo] at g3;refine ⟨A,.int a1,rfl,g3,_,rfl,_,rfl,_,rfl,two,fun t4 YX=>?_⟩;have z4:=z3.trans (Ad (o:=.tup [.str mid,.str oth]) YX);have g4:=(Ql.same z4).get (x:=mid) (y:=oth) (t:=t4) hmid hoth Ab;rw [em] at g4;exists A,.int a2,rfl,g4,_,_,rfl,rfl;have low:∀ p1 p2,M0 one mid=some p1->M0 mid oth=some p2->a1 + a2<=p1 + p2:=fun p1 p2 q1 q2=>by
        obtain ⟨n1',Sr,l1'⟩:=moAll one mid p1 q1;obtain ⟨n2',Wf,l2'⟩:=moAll mid oth p2 q2;rw [eo] at Sr;rw [em] at Wf;cases Sr
        cases Wf
        lia
       have putM:∀ {H7:Hp} (nn:Int),Aq H6 H7->nn<=a1 + a2->(∀ n,M2 one oth=some n->nn<=n)->Bl ws one oth nn->∀ t6,H7 t6=none->∃ a H8,V.ref A=.ref a/\FD (upd H7 t6 (.tup [.str one,.str oth])) a (.ref t6) (.int nn) H8 /\
         ((∃ w5 w6 w8,([some (.ref cc),some (.ref D),some (.ref e),some (.ref A),some (.str one),some (.str oth),v6,some (.str mid),some (.int (a1 + a2))]:St)=[some (.ref cc),some (.ref D),some (.ref e),some (.ref A),some (.str one),w5,w6,some (.str mid),w8])/\Aq H H8/\∃ M,MO H8 A xs M (2000 + t * 1000 + i * 30 + (j + 1))/\Gq M1 M/\(∀ x y n,M x y=some n->Bl ws x y n)/\∀ (b:Nat) y,b < j + 1->xs[b]? = some y->∀ p1 p2,M0 one mid=some p1->M0 mid y=some p2->∃ n,M one y=some n/\n<=p1 + p2):=by
        intro H7 nn s7 Zi hle hws t6 WA;have z6:=s7.trans (Ad (o:=.tup [.str one,.str oth]) WA);obtain ⟨H8,dp,hM8,kvs,e8⟩:=(Ql.same z6).put (by lia) hone hoth (n:=nn) (t:=t6) (x:=one) (y:=oth) Ab;have mo8:Gq M2 (KZ M2 one oth nn):=fun x y n h=>by
         unfold KZ;split
         ·rename_i hc
          obtain ⟨rfl,rfl⟩:=hc;exact ⟨_,rfl,hle n h⟩
         ·exact ⟨n,h,aV _⟩
        refine ⟨A,H8,rfl,dp,⟨_,_,_,rfl⟩,fun b o z=>?_,_,hM8,VT.trans mo8,fun x y n h=>?_,fun b y hb ey p1 p2 q1 q2=>?_⟩
        ·rw [e8,Ae (nAD z)];exact z6 _ _ (s6 _ _ z)
        ·unfold KZ at h;split at h
         ·rename_i hc
          obtain ⟨rfl,rfl⟩:=hc;cases h
          exact hws
         ·exact VQ x y n h
        ·by_cases eb:b=j
         ·subst eb;rw [eoth] at ey;cases ey
          refine ⟨nn,?_,eA Zi (low p1 p2 q1 q2)⟩;unfold KZ;rw [if_pos ⟨rfl,rfl⟩]
         ·obtain ⟨n,en,ln⟩:=QL b y (by lia) ey p1 p2 q1 q2;obtain ⟨n',Z0,ln'⟩:=mo8 one y n en;exact ⟨n',Z0,by lia⟩
       have w12:=(VQ _ _ _ eo).app (VQ _ _ _ em);refine ⟨_,rfl,_,rfl,_,rfl,two,fun t5 XY=>?_⟩;have z5:=z4.trans (Ad (o:=.tup [.str one,.str oth]) XY);exists A,_,rfl,(Ql.same z5).get (x:=one) (y:=oth) (t:=t5) hone hoth Ab,_,rfl;cases ez:M2 one oth with
       | none=>
        refine De ?_;refine De ?_;refine ⟨_,rfl,_,rfl,_,rfl,_,rfl,two,fun t6 WA=>?_⟩;exact (putM (a1 + a2) z5 (aV _) (fun n h=>by rw [ez] at h; cases h) w12 t6 WA).imp fun _ h=>h.imp fun _ h=>⟨h.1,h.2.1,hNj _ _ h.2.2⟩
       | some a3=>
        refine BZ ?_;refine ⟨_,rfl,_,rfl,_,rfl,_,rfl,two,fun t6 WA=>?_⟩;have z6:=z5.trans (Ad (o:=.tup [.str one,.str oth]) WA);have g6:=(Ql.same z6).get (x:=one) (y:=oth) (t:=t6) hone hoth Ab;rw [ez] at g6;exists A,.int a3,rfl,g6,_,_,rfl,rfl,_,rfl;refine CL (fun BD=>?_) (fun BD=>?_)
        ·have BD:=of_decide_eq_true BD;refine ⟨_,rfl,_,rfl,_,rfl,_,rfl,two,fun t7 ht7=>?_⟩;exact (putM (a1 + a2) z6 (aV _) (fun n h=>by rw [ez] at h; cases h; lia) w12 t7 ht7).imp fun _ h=>h.imp fun _ h=>⟨h.1,h.2.1,hNj _ _ h.2.2⟩
        ·have BD:¬ a1 + a2 < a3:=fun z=>BD (decide_eq_true z)
         refine hNj _ _ (keepM z6 fun p1 p2 q1 q2=>⟨a3,ez,?_⟩);have:=low p1 p2 q1 q2;lia
    ·obtain ⟨⟨v5,v6,v8,rfl⟩,s6,M2,Ql,VT,VQ,QL⟩:=hP;rw [ZA] at Ql QL;refine hNi _ _ ⟨⟨_,_,_,_,rfl⟩,s6,M2,(Ql.up (by lia)),VU.trans VT,VQ,fun a x ha ex y hy p1 p2 q1 q2=>?_⟩;by_cases ea:a=i
     ·subst ea;rw [eone] at ex;cases ex
      obtain ⟨b,hb,eb⟩:=ab hy;exact QL b y hb (by rw [Z9 hb,eb]) p1 p2 q1 q2
     ·obtain ⟨n,en,ln⟩:=Sz a x (by lia) ex y hy p1 p2 q1 q2;obtain ⟨n',Z0,ln'⟩:=VT x y n en;exact ⟨n',Z0,by lia⟩
   ·obtain ⟨⟨v4,v5,v6,v8,rfl⟩,s5,M1,V3,VU,Y2,Sz⟩:=hP;rw [ZA] at V3 Sz;refine hNt _ _ ⟨⟨_,_,_,_,_,rfl⟩,s5,M1,(V3.up (by lia)),fw.next pos ends emid VU Y2 fun x hx y hy p1 p2 q1 q2=>?_⟩;obtain ⟨a,ha,ea⟩:=ab hx;exact Sz a x ha (by rw [Z9 ha,ea]) y hy p1 p2 q1 q2
  ·obtain ⟨⟨v4,v5,v6,v7,v8,rfl⟩,s4,M1,V3,fw⟩:=hP;rw [ZA] at V3 fw;exact ⟨_,rfl,k H4 A s4 hA ⟨_,_,V3.md (fun x hx y hy=>let ⟨nn,e,_⟩:=fw.doneW ends (fun x hx y hy=>let ⟨kk,a,_⟩:=mw.sums X8 SX x hx y hy; ⟨kk,a⟩) x hx y hy; ⟨nn,e⟩),fun x hx y hy=>(fw.doneW ends (fun x hx y hy=>let ⟨kk,a,_⟩:=mw.sums X8 SX x hx y hy; ⟨kk,a⟩) x hx y hy).imp fun nn h=>⟨by rw [if_pos ⟨hx,hy⟩]; exact h.1,h.2,mw.bound X8 SX hx hy h.2⟩⟩⟩
end
end K23
namespace L2
open PySem PySem.Spec PyProof.Rows
def Gp (bb:Bool) (h:Heap) (l:Addr) (ys:Array Value):Prop:=match bb with | true=>h.IsTuple l ys | false=>h.IsList l ys
def JD (bb:Bool) (h:Heap) (i l:Addr) (k:Nat):Prop:=match bb with | true=>h.IsTupleIter i l k | false=>h.IsListIter i l k
def itN:Bool->String | true=>"tuple_iterator" | false=>"list_iterator"
def TF (K:ZD) (bb:Bool) (H:Hp) (a:Addr) (xs:List V):Prop:=match bb with | true=>Ay K H a xs | false=>AZ K H a xs
section
variable {bb:Bool} {h h':Heap} {a b i l:Addr} {k:Nat} {items:Array Value}
theorem Gp.extBut (x:Gp bb h a items) (hs:Heap.ExtBut b h h') (hab:a ≠ b):Gp bb h' a items:=by
 cases bb
 ·exact Heap.IsList.extBut x hs hab
 ·exact Heap.IsTuple.extBut x hs hab
theorem JD.extBut (x:JD bb h i l k) (hs:Heap.ExtBut b h h') (hab:i ≠ b):JD bb h' i l k:=by
 cases bb
 ·exact Heap.IsListIter.extBut x hs hab
 ·exact Heap.IsTupleIter.extBut x hs hab
theorem JD.at (x:JD bb h i l k) (e:∀ o,h.get? i=some o->h'.get? i=some o):JD bb h' i l k:=by
 cases bb
 ·exact Heap.IsListIter.at x e
 ·exact D1 x e
theorem JD.ex (x:JD bb h i l k):∃ o,h.get? i=some o/\o.data=.fields #[.ref l,rawInt k]:=by
 cases bb
 ·obtain ⟨o,e,_,d⟩:=x; exact ⟨o,e,d⟩
 ·obtain ⟨o,e,_,d⟩:=x; exact ⟨o,e,d⟩
theorem JD.lt (x:JD bb h i l k):i < h.objs.size:=let ⟨_,e,_⟩:=x.ex; ZK e
theorem Gp.lt (x:Gp bb h a items):a < h.objs.size:=by
 cases bb
 ·obtain ⟨_,e,_⟩:=x; exact ZK e
 ·obtain ⟨_,e,_⟩:=x; exact ZK e
end
theorem Au.seqB {X:Cx} {pins:List (Addr × Obj)} {σ:St} {H:Hp} {s:Shared} {bb:Bool} {a:Addr} {xs:List V} (I:Au X pins σ H s) (h:TF X.K bb H a xs):∃ Av:List Value,AF xs Av/\Gp bb s.heap a Av.toArray/\xs.length<=sizeLine:=by
 cases bb
 ·obtain ⟨Av,r,p,z⟩:=I.list h; exact ⟨Av,r,p.isList,z⟩
 ·obtain ⟨Av,r,p,z⟩:=I.tuple h; exact ⟨Av,r,p,z⟩
theorem Au.seqB_inj {X:Cx} {pins:List (Addr × Obj)} {σ:St} {H:Hp} {s:Shared} {bb:Bool} {a:Addr} {xs ys:List V} (I:Au X pins σ H s) (h:TF X.K bb H a xs) (h':TF X.K bb H a ys):xs=ys:=by
 cases bb
 ·exact I.list_inj h h'
 ·exact I.tuple_inj h h'
section
variable {prog:Program} {w:World} {A:Around} {E:Value->Shared->Prop} {s:Shared}
theorem Lq {bb:Bool} {it l:Addr} {i:Nat} {items} {x:Value} {Q:Value->Shared->Prop} (hit:JD bb s.heap it l i) (hl:Gp bb s.heap l items) (hx:items[i]? = some x)
  (hQ:∀ h',JD bb h' it l (i + 1)->Heap.SameBut it s.heap h'->Q x { s with heap:=h' }):wpAny (model prog w) A (Builtin.SmallTypes.nextOf (.ref it)) Q E s:=by
 cases bb
 ·exact wpAny_nextOf_list_item hit hl hx hQ
 ·exact Cu hit hl hx hQ
theorem Mx {bb:Bool} {it l:Addr} {i:Nat} {items} {Q:Value->Shared->Prop} (hh:A.handled=none) (hit:JD bb s.heap it l i) (hl:Gp bb s.heap l items) (hx:items[i]? = none)
  (hE:∀ h' e,Heap.ExtBut it s.heap h'->(∃ o,h'.get? e=some o/\o.cls=.type "StopIteration")->E (.ref e) { s with heap:=h' }):wpAny (model prog w) A (Builtin.SmallTypes.nextOf (.ref it)) Q E s:=by
 cases bb
 ·exact wpAny_nextOf_list_end hh hit hl hx hE
 ·exact Ea hh hit hl hx hE
theorem Iw {bb:Bool} {z TI TO i1 i2 l1 l2:Addr} {k1 k2:Nat} {xs ys:Array Value} {x y a b:Value} {Q:Value->Shared->Prop} (D:ZipApart z TI TO i1 i2 l1 l2)
  (hz:IsZip s.heap z TI TO .none) (hTI:IsPair s.heap TI (.ref i1) (.ref i2)) (hTO:IsPair s.heap TO a b)
  (h1:s.heap.IsTupleIter i1 l1 k1) (h2:JD bb s.heap i2 l2 k2) (JS:s.heap.IsTuple l1 xs) (Io:Gp bb s.heap l2 ys) (hx:xs[k1]? = some x) (hy:ys[k2]? = some y)
  (hQ:∀ h',IsZip h' z TI TO (rawInt s.heap.objs.size)->IsPair h' TO x y->h'.IsTupleIter i1 l1 (k1 + 1)->JD bb h' i2 l2 (k2 + 1)->IsPair h' s.heap.objs.size x y->h'.objs.size=s.heap.objs.size + 1 ->
   (∀ c o,c ≠ z->c ≠ TO->c ≠ i1->c ≠ i2->s.heap.get? c=some o->h'.get? c=some o)->Q (.ref s.heap.objs.size) { s with heap:=h' }) :
  wpAny (model prog w) A (Builtin.«zip.__next__» ⟨[.ref z],[]⟩) (fun fin s'=>∃ v,fin=.done (.ret v)/\Q v s') E s:=by
 show wpAny _ _ (field (.ref z) 2 >>= _) _ _ _
 refine wpAny_bind (wpAny_field hz rfl (x:=.bool false) rfl ?_);show wpAny _ _ (field (.ref z) 3 >>= _) _ _ _
 refine wpAny_bind (wpAny_field hz rfl (x:=.ref TI) rfl ?_);refine wpAny_bind (wpAny_seqItems hTI rfl ?_);show wpAny _ _ (Builtin.SmallTypes.ownedTupleIsFree (.ref z) >>= _) _ _ _
 refine wpAny_bind ?_;unfold Builtin.SmallTypes.ownedTupleIsFree;refine wpAny_bind (wpAny_field hz rfl (x:=.none) rfl (wpAny_pure ?_));simp only [if_true];refine wpAny_bind (wpAny_rule ?_);refine wpAny_bind (wpAny_field hz rfl (x:=.ref TO) rfl ?_);refine wpAny_bind (wpAny_setField_rec hz (by simp) fun B3 HG CF=>?_);replace HG:IsZip B3 z TI TO .ellipsis:=HG;refine wpAny_bind ?_;simp only [dj,fH,fJ,fX];refine wpAny_bind (wpAny_bind (wpAny_onRaise ?_));show wpAny _ _ (Builtin.SmallTypes.nextOf (.ref i1) >>= _) _ _ _
 refine wpAny_bind (Cu (h1.extBut CF.extBut D.i1z) (JS.extBut CF.extBut D.l1z) hx fun GV Ux Dv=>wpAny_pure ?_);have Jp:IsPair GV TO a b:=Dv.extBut _ _ D.TOi1 (CF.extBut _ _ D.TOz hTO);refine wpAny_bind (wpAny_seqItems Jp rfl ?_);refine wpAny_bind (wpAny_updateSeq_pair Jp fun HU L5 DH=>?_);replace L5:IsPair HU TO x b:=L5;refine wpAny_bind (wpAny_letGo (wpAny_pure ?_));refine wpAny_bind (wpAny_bind (wpAny_onRaise ?_));show wpAny _ _ (Builtin.SmallTypes.nextOf (.ref i2) >>= _) _ _ _
 refine wpAny_bind (Lq (((h2.extBut CF.extBut D.i2z).extBut Dv.extBut D.i12.symm).extBut DH.extBut D.TOi2.symm)
  (((Io.extBut CF.extBut D.l2z).extBut Dv.extBut D.l2i1).extBut DH.extBut D.l2TO) hy fun NH Xf HJ=>wpAny_pure ?_)
 have RT:IsPair NH TO x b:=HJ.extBut _ _ D.TOi2 L5;refine wpAny_bind (wpAny_seqItems RT rfl ?_);refine wpAny_bind (wpAny_updateSeq_pair RT fun Df Jo HI=>?_);replace Jo:IsPair Df TO x y:=Jo;refine wpAny_bind (wpAny_letGo (wpAny_pure (wpAny_pure ?_)));refine wpAny_bind (wpAny_seqItems Jo rfl ?_);refine wpAny_bind (wpAny_newTuple ?_);have hsz:Df.objs.size=s.heap.objs.size:=by rw [HI.1,HJ.1,DH.1,Dv.1,CF.1]
 have Up:IsZip Df z TI TO .ellipsis:=HI.extBut _ _ D.TOz.symm (HJ.extBut _ _ D.i2z.symm (DH.extBut _ _ D.TOz.symm (Dv.extBut _ _ D.i1z.symm HG)));have WE:∀ c o,c ≠ z->c ≠ TO->c ≠ i1->c ≠ i2->s.heap.get? c=some o->Df.get? c=some o:=fun c o c1 c2 c3 c4 e=>
  HI.extBut _ _ c2 (HJ.extBut _ _ c4 (DH.extBut _ _ c2 (Dv.extBut _ _ c3 (CF.extBut _ _ c1 e))))
 have Uw:Df.IsTupleIter i1 l1 (k1 + 1):=((Ux.extBut DH.extBut D.TOi1.symm).extBut HJ.extBut D.i12).extBut HI.extBut D.TOi1.symm;have Uv:JD bb Df i2 l2 (k2 + 1):=Xf.extBut HI.extBut D.TOi2.symm;have hzlt:z < Df.objs.size:=ZK Up;have hTOlt:TO < Df.objs.size:=ZK Jo;have hi1lt:i1 < Df.objs.size:=by obtain ⟨_,e,_⟩:=Uw; exact ZK e
 have hi2lt:i2 < Df.objs.size:=Uv.lt;show wpAny _ _ (Builtin.SmallTypes.ownedTupleHandOut (.ref z) (.ref Df.objs.size) >>= _) _ _ _
 refine wpAny_bind ?_;unfold Builtin.SmallTypes.ownedTupleHandOut;have W5:IsZip (Df.push { cls:=.type "tuple",data:=.seq #[x,y] }) z TI TO .ellipsis:=ZC _ Up;refine wpAny_bind (wpAny_setField_rec W5 (by simp) fun YQ RO RQ=>?_);replace RO:IsZip YQ z TI TO (rawInt Df.objs.size):=RO;refine wpAny_setField_rec RO (by simp) fun RM OG RP=>?_
 replace OG:IsZip RM z TI TO (rawInt Df.objs.size):=OG;have up:∀ c o,c ≠ z->Df.get? c=some o->RM.get? c=some o:=fun c o c1 e=>RP.extBut _ _ c1 (RQ.extBut _ _ c1 (ZC _ e))
 have Ut:IsPair RM Df.objs.size x y:=RP.extBut _ _ (aW hzlt) (RQ.extBut _ _ (aW hzlt) (ZM _ rfl));have hz8:RM.objs.size=Df.objs.size + 1:=by rw [RP.1,RQ.1,aA]
 rw [hsz] at OG Ut hz8;refine wpAny_pure ⟨_,rfl,?_⟩;show Q (.ref Df.objs.size) _
 rw [hsz];exact hQ RM OG (up _ _ D.TOz Jo) (Uw.at fun o e=>up _ o D.i1z e) (Uv.at fun o e=>up _ o D.i2z e) Ut hz8 fun c o c1 c2 c3 c4 e=>up c o c1 (WE c o c1 c2 c3 c4 e)
theorem JE {bb:Bool} {z TI TO i1 i2 l1 l2:Addr} {k1 k2:Nat} {xs ys:Array Value} {a b:Value} {Q:Fin->Shared->Prop} (hh:A.handled=none) (D:ZipApart z TI TO i1 i2 l1 l2)
  (hz:IsZip s.heap z TI TO .none) (hTI:IsPair s.heap TI (.ref i1) (.ref i2)) (hTO:IsPair s.heap TO a b)
  (h1:s.heap.IsTupleIter i1 l1 k1) (h2:JD bb s.heap i2 l2 k2) (JS:s.heap.IsTuple l1 xs) (Io:Gp bb s.heap l2 ys) (hend:xs[k1]? = none\/ys[k2]? = none)
  (hE:∀ h' e,(∀ c o,c ≠ z->c ≠ TO->c ≠ i1->c ≠ i2->s.heap.get? c=some o->h'.get? c=some o)->(∃ o,h'.get? e=some o/\o.cls=.type "StopIteration")->E (.ref e) { s with heap:=h' }) :
  wpAny (model prog w) A (Builtin.«zip.__next__» ⟨[.ref z],[]⟩) Q E s:=by
 show wpAny _ _ (field (.ref z) 2 >>= _) _ _ _
 refine wpAny_bind (wpAny_field hz rfl (x:=.bool false) rfl ?_);show wpAny _ _ (field (.ref z) 3 >>= _) _ _ _
 refine wpAny_bind (wpAny_field hz rfl (x:=.ref TI) rfl ?_);refine wpAny_bind (wpAny_seqItems hTI rfl ?_);show wpAny _ _ (Builtin.SmallTypes.ownedTupleIsFree (.ref z) >>= _) _ _ _
 refine wpAny_bind ?_;unfold Builtin.SmallTypes.ownedTupleIsFree;refine wpAny_bind (wpAny_field hz rfl (x:=.none) rfl (wpAny_pure ?_));simp only [if_true];refine wpAny_bind (wpAny_rule ?_);refine wpAny_bind (wpAny_field hz rfl (x:=.ref TO) rfl ?_);refine wpAny_bind (wpAny_setField_rec hz (by simp) fun B3 HG CF=>?_);replace HG:IsZip B3 z TI TO .ellipsis:=HG;refine wpAny_bind ?_;simp only [dj,fH,fJ,fX];refine wpAny_bind (wpAny_bind (wpAny_onRaise ?_));show wpAny _ _ (Builtin.SmallTypes.nextOf (.ref i1) >>= _) _ _ _
 cases hx:xs[k1]? with
 | none=>
  refine wpAny_bind (Ea hh (h1.extBut CF.extBut D.i1z) (JS.extBut CF.extBut D.l1z) hx fun GV e Dv he=>?_);obtain ⟨oe,hoe,hce⟩:=he;have Ur:IsZip GV z TI TO .ellipsis:=Dv _ _ D.i1z.symm HG;have hez:e ≠ z:=fun x=>by subst x; rw [Ur] at hoe; cases hoe; simp at hce
  refine wpAny_setField_rec Ur (by simp) fun HU _ DH=>hE HU e (fun c o c1 _ c3 _ x=>DH.extBut _ _ c1 (Dv _ _ c3 (CF.extBut _ _ c1 x))) ⟨oe,DH.extBut _ _ hez hoe,hce⟩
 | some x=>
  have hy:ys[k2]? = none:=by rcases hend with h | h; rw [hx] at h; cases h; exact h
  refine wpAny_bind (Cu (h1.extBut CF.extBut D.i1z) (JS.extBut CF.extBut D.l1z) hx fun GV Ux Dv=>wpAny_pure ?_);have Jp:IsPair GV TO a b:=Dv.extBut _ _ D.TOi1 (CF.extBut _ _ D.TOz hTO);refine wpAny_bind (wpAny_seqItems Jp rfl ?_);refine wpAny_bind (wpAny_updateSeq_pair Jp fun HU L5 DH=>?_);refine wpAny_bind (wpAny_letGo (wpAny_pure ?_));refine wpAny_bind (wpAny_bind (wpAny_onRaise ?_));show wpAny _ _ (Builtin.SmallTypes.nextOf (.ref i2) >>= _) _ _ _
  refine wpAny_bind (Mx hh (((h2.extBut CF.extBut D.i2z).extBut Dv.extBut D.i12.symm).extBut DH.extBut D.TOi2.symm)
   (((Io.extBut CF.extBut D.l2z).extBut Dv.extBut D.l2i1).extBut DH.extBut D.l2TO) hy fun NH e HJ he=>?_)
  obtain ⟨oe,hoe,hce⟩:=he;have Uq:IsZip NH z TI TO .ellipsis:=HJ _ _ D.i2z.symm (DH.extBut _ _ D.TOz.symm (Dv.extBut _ _ D.i1z.symm HG));have hez:e ≠ z:=fun x=>by subst x; rw [Uq] at hoe; cases hoe; simp at hce
  refine wpAny_setField_rec Uq (by simp) fun Df _ HI=>hE Df e (fun c o c1 c2 c3 c4 x=>HI.extBut _ _ c1 (HJ _ _ c4 (DH.extBut _ _ c2 (Dv.extBut _ _ c3 (CF.extBut _ _ c1 x))))) ⟨oe,HI.extBut _ _ hez hoe,hce⟩
theorem G2 {bb:Bool} {z TI TO i1 i2 l1 l2:Addr} {k1 k2:Nat} {xs ys:Array Value} {x y a b:Value} {Q:Option Value->Shared->Prop} (D:ZipApart z TI TO i1 i2 l1 l2)
  (hz:IsZip s.heap z TI TO .none) (hTI:IsPair s.heap TI (.ref i1) (.ref i2)) (hTO:IsPair s.heap TO a b)
  (h1:s.heap.IsTupleIter i1 l1 k1) (h2:JD bb s.heap i2 l2 k2) (JS:s.heap.IsTuple l1 xs) (Io:Gp bb s.heap l2 ys) (hx:xs[k1]? = some x) (hy:ys[k2]? = some y)
  (hQ:∀ h',IsZip h' z TI TO (rawInt s.heap.objs.size)->IsPair h' TO x y->h'.IsTupleIter i1 l1 (k1 + 1)->JD bb h' i2 l2 (k2 + 1)->IsPair h' s.heap.objs.size x y->h'.objs.size=s.heap.objs.size + 1 ->
   (∀ c o,c ≠ z->c ≠ TO->c ≠ i1->c ≠ i2->s.heap.get? c=some o->h'.get? c=some o)->Q (some (.ref s.heap.objs.size)) { s with heap:=h' }) :
  wpAny (model prog w) A (pyNext (.ref z)) Q E s:=by
 have hT:s.TypeIs (.ref z) "zip":=⟨_,hz,rfl⟩
 unfold pyNext;exact wpAny_bind (wpAny_attempt (wpAny_callSpecial?_slot (name:=Str.ofString "__next__") hT F.slot_zip_next
  (wpAny_call_entry F.slot_zip_next hT F.entry_zip_next
   (Iw D hz hTI hTO h1 h2 JS Io hx hy fun h' a1 a2 a3 a4 a5 a6 a7=>wpAny_pure (hQ h' a1 a2 a3 a4 a5 a6 a7)) (F.args_zip_next_1 _))))
theorem HP {bb:Bool} {z TI TO i1 i2 l1 l2:Addr} {k1 k2:Nat} {xs ys:Array Value} {a b:Value} {Q:Option Value->Shared->Prop} (hh:A.handled=none) (D:ZipApart z TI TO i1 i2 l1 l2)
  (hz:IsZip s.heap z TI TO .none) (hTI:IsPair s.heap TI (.ref i1) (.ref i2)) (hTO:IsPair s.heap TO a b)
  (h1:s.heap.IsTupleIter i1 l1 k1) (h2:JD bb s.heap i2 l2 k2) (JS:s.heap.IsTuple l1 xs) (Io:Gp bb s.heap l2 ys) (hend:xs[k1]? = none\/ys[k2]? = none)
  (hQ:∀ h',(∀ c o,c ≠ z->c ≠ TO->c ≠ i1->c ≠ i2->s.heap.get? c=some o->h'.get? c=some o)->Q none { s with heap:=h' }):wpAny (model prog w) A (pyNext (.ref z)) Q E s:=by
 have hT:s.TypeIs (.ref z) "zip":=⟨_,hz,rfl⟩
 unfold pyNext;refine wpAny_bind (wpAny_attempt (wpAny_callSpecial?_slot (name:=Str.ofString "__next__") hT F.slot_zip_next
  (wpAny_call_entry F.slot_zip_next hT F.entry_zip_next (JE hh D hz hTI hTO h1 h2 JS Io hend fun h' e hk he=>?_) (F.args_zip_next_1 _))))
 obtain ⟨o,ho,hc⟩:=he;refine wpAny_bind (wpAny_isInstance (T:="StopIteration") (b:=true) ⟨o,ho,hc⟩ isSubtype_stop ?_);exact wpAny_pure (hQ _ hk)
end
abbrev Of (h:Heap) (l1:Addr):Heap:=h.push { cls:=.type "tuple_iterator",data:=.fields #[.ref l1,.int 0 0] }
abbrev Oe (bb:Bool) (h:Heap) (l1 l2:Addr):Heap:=(Of h l1).push { cls:=.type (itN bb),data:=.fields #[.ref l2,.int 0 0] }
abbrev Od (bb:Bool) (h:Heap) (l1 l2:Addr):Heap:=(Oe bb h l1 l2).push { cls:=.type "tuple",data:=.seq #[.ref h.objs.size,.ref (Of h l1).objs.size] }
abbrev Oc (bb:Bool) (h:Heap) (l1 l2:Addr):Heap:=(Od bb h l1 l2).push { cls:=.type "tuple",data:=.seq #[.none,.none] }
abbrev Iv (bb:Bool) (h:Heap) (l1 l2:Addr):Heap:=(Oc bb h l1 l2).push { cls:=.type "zip",data:=.fields #[.none,.bool false,.bool false,.ref (Oe bb h l1 l2).objs.size,.ref (Od bb h l1 l2).objs.size] }
theorem Jg (bb:Bool) (l1 l2:Addr) (xs ys:Array Value) :
  Meets (Builtin.«zip.__new__» ⟨[.type "zip",.ref l1,.ref l2],[]⟩) (fun _ R s=>s.heap.IsTuple l1 xs/\Gp bb s.heap l2 ys /\
   R (.ok (.ret (.ref (Oc bb s.heap l1 l2).objs.size))) { s with heap:=Iv bb s.heap l1 l2 }):=
 .of_wp fun prog w A R s h=>by
  obtain ⟨hp,g,d,tk,os⟩:=s; obtain ⟨JS,Io,h⟩:=h;have hsub:=sub_zip;have Xd:Heap.IsTuple (Shared.heap ⟨hp,g,d,tk,os⟩) l1 xs:=JS;cases bb
  ·have Q7:Heap.IsList (Shared.heap ⟨hp.push { cls:=.type "tuple_iterator",data:=.fields #[.ref l1,.int 0 0] },g,d,tk,os⟩) l2 ys:=Heap.IsList.push Io _;wp_walk using wpAny_pyIter_tuple Xd,wpAny_pyIter_list Q7;exact ⟨_,rfl,h⟩
  ·have Q7:Heap.IsTuple (Shared.heap ⟨hp.push { cls:=.type "tuple_iterator",data:=.fields #[.ref l1,.int 0 0] },g,d,tk,os⟩) l2 ys:=Heap.IsTuple.push Io _;wp_walk using wpAny_pyIter_tuple Xd,wpAny_pyIter_tuple Q7;exact ⟨_,rfl,h⟩
section
variable {prog:Program} {w:World} {A:Around} {E:Value->Shared->Prop} {s:Shared}
theorem Qy {bb:Bool} {l1 l2:Addr} {xs ys:Array Value} {Q:Value->Shared->Prop} (JS:s.heap.IsTuple l1 xs) (Io:Gp bb s.heap l2 ys)
  (h:∀ h',IsZip h' (s.heap.objs.size + 4) (s.heap.objs.size + 2) (s.heap.objs.size + 3) .none->IsPair h' (s.heap.objs.size + 2) (.ref s.heap.objs.size) (.ref (s.heap.objs.size + 1)) ->
   IsPair h' (s.heap.objs.size + 3) .none .none->h'.IsTupleIter s.heap.objs.size l1 0->JD bb h' (s.heap.objs.size + 1) l2 0->h'.objs.size=s.heap.objs.size + 5 ->
   (∀ c o,s.heap.get? c=some o->h'.get? c=some o)->Q (.ref (s.heap.objs.size + 4)) { s with heap:=h' }) :
  wpAny (model prog w) A (call (.type "zip") [.ref l1,.ref l2]) Q E s:=by
 refine callType_new F.called_zip (by decide) (F.typeCall_zip_2 _ _) (F.newCall_zip_2 _ _) (fun obj=>F.args_object_init_3 obj _ _) F.entry_zip_new
  (Jg bb l1 l2 xs ys) ⟨JS,Io,?_⟩
 have z1:(Of s.heap l1).objs.size=s.heap.objs.size + 1:=aA ..;have z2:(Oe bb s.heap l1 l2).objs.size=s.heap.objs.size + 2:=by rw [aA,z1]
 have z3:(Od bb s.heap l1 l2).objs.size=s.heap.objs.size + 3:=by rw [aA,z2]
 have z4:(Oc bb s.heap l1 l2).objs.size=s.heap.objs.size + 4:=by rw [aA,z3]
 have z5:(Iv bb s.heap l1 l2).objs.size=s.heap.objs.size + 5:=by rw [aA,z4]
 have g5:(Iv bb s.heap l1 l2).get? (Oc bb s.heap l1 l2).objs.size=some _:=ZM _ rfl;have g4:(Iv bb s.heap l1 l2).get? (Od bb s.heap l1 l2).objs.size=some _:=ZC _ (ZM _ rfl);have g3:(Iv bb s.heap l1 l2).get? (Oe bb s.heap l1 l2).objs.size=some _:=ZC _ (ZC _ (ZM _ rfl));have g2:(Iv bb s.heap l1 l2).get? (Of s.heap l1).objs.size=some _:=ZC _ (ZC _ (ZC _ (ZM _ rfl)));have g1:(Iv bb s.heap l1 l2).get? s.heap.objs.size=some _:=ZC _ (ZC _ (ZC _ (ZC _ (ZM _ rfl))));show _/\_
 rw [z2,z3,z4] at g5;rw [z1,z2] at g3;rw [z3] at g4;rw [z1] at g2;rw [z4];exact ⟨⟨_,g5,rfl⟩,h _ g5 g3 g4 ⟨_,g1,rfl,rfl⟩ (by cases bb <;> exact ⟨_,g2,rfl,rfl⟩) z5 fun c o x=>
  ZC _ (ZC _ (ZC _ (ZC _ (ZC _ x))))⟩
end
def MS (K:ZD) (bb:Bool) (a b:Addr):It:=
 ⟨fun i H=>∃ xs ys x y,Ay K H a xs/\TF K bb H b ys/\xs[i]? = some x/\ys[i]? = some y,
   fun i H v H'=>∃ T x y,H T=none/\v=.ref T/\H'=upd H T (.tup [x,y])/\(∀ xs,Ay K H a xs->xs[i]? = some x)/\(∀ ys,TF K bb H b ys->ys[i]? = some y),
   fun i H=>∃ xs ys,Ay K H a xs/\TF K bb H b ys/\(xs.length<=i\/ys.length<=i)⟩
theorem OY {bb:Bool} {P:Program} {w:World} {K:ZD} {es:List Expr} {x1} {pos:Pos} (a b z TI TO i1 i2:Addr) (D:ZipApart z TI TO i1 i2 a b) :
  MN P w K (.Tuple es x1 pos) (MS K bb a b) [z,TI,TO,i1,i2] z (fun i h=>IsZip h z TI TO .none/\IsPair h TI (.ref i1) (.ref i2)/\(∃ c d,IsPair h TO c d)/\h.IsTupleIter i1 a i/\JD bb h i2 b i) where
 mem:=by simp
 obj:=fun i h st c hc=>by
  obtain ⟨h1,h2,⟨_,_,h3⟩,⟨o4,e4,c4,d4⟩,h5⟩:=st;obtain ⟨o5,e5,d5⟩:=h5.ex;simp only [ZF,ZI,or_false] at hc;rcases hc with rfl | rfl | rfl | rfl | rfl
  ·exact ⟨_,h1,fun v q=>by cases q⟩
  ·exact ⟨_,h2,fun v q=>by cases q⟩
  ·exact ⟨_,h3,fun v q=>by cases q⟩
  ·exact ⟨_,e4,fun v q=>by rw [d4] at q; cases q⟩
  ·exact ⟨_,e5,fun v q=>by rw [d5] at q; cases q⟩
 keep:=fun i h h' st k=>by
  obtain ⟨h1,h2,⟨c,d,h3⟩,h4,h5⟩:=st;exact ⟨k _ (by simp) _ h1,k _ (by simp) _ h2,⟨c,d,k _ (by simp) _ h3⟩,D1 h4 fun o e=>k _ (by simp) _ e,h5.at fun o e=>k _ (by simp) o e⟩
 item:=by
  intro X hP hw hK hc i pins s σ H E I hf st hg;subst hP hw hK;obtain ⟨xs,ys,x,y,hq,VX,hx,hy⟩:=hg;obtain ⟨Av,rv,p,hz⟩:=I.tuple hq;obtain ⟨JR,VS,p2,YS⟩:=I.seqB VX;obtain ⟨u,hu,ru⟩:=rv.get hx;obtain ⟨u2,XU,ru2⟩:=VS.get hy;obtain ⟨h1,h2,⟨c,d,h3⟩,h4,h5⟩:=st;refine G2 D h1 h2 h3 h4 h5 (show s.heap.IsTuple a Av.toArray from p) p2 (x:=u) (y:=u2) (by simpa using hu) (by simpa using XU) fun h' g1 g2 g3 g4 g5 g6 g7=>?_
  have kk:∀ b' o,b' ∉ [z,TI,TO,i1,i2]->s.heap.get? b'=some o->h'.get? b'=some o:=fun b' o hb e=>by
   simp only [ZF,ZI,or_false,not_or] at hb;exact g7 b' o hb.1 hb.2.2.1 hb.2.2.2.1 hb.2.2.2.2 e
  have I1:=I.turnedT (t':=s.toks) (xs:=[x,y]) hf kk ⟨by show 2<=sizeLine; decide,[u,u2],.cons ru (.cons ru2 .nil),⟨_,g5,rfl,0,rfl⟩,fun o e=>by rw [g5] at e; cases e; rfl⟩;have hT:H s.heap.objs.size=none:=I.hok.fresh (ZJ _);have ltz:=ZK h1;have hf1:∀ b' ∈ [z,TI,TO,i1,i2],(upd H s.heap.objs.size (.tup [x,y])) b'=none:=fun b' hb=>by
   have lt:b' < s.heap.objs.size:=by
    simp only [ZF,ZI,or_false] at hb;rcases hb with rfl | rfl | rfl | rfl | rfl
    ·exact ZK h1
    ·exact ZK h2
    ·exact ZK h3
    ·obtain ⟨_,e,_⟩:=h4; exact ZK e
    ·exact h5.lt
   rw [Ae (ZQ lt)];exact (hf b' hb).1
  refine ⟨.ref s.heap.objs.size,rfl,wpAny_letOwnedTupleGo_zip g1 fun Zy z1 sb=>?_⟩;obtain ⟨_,f1,_,f3,f4,f5⟩:=hf z (by simp);have I2:=I1.turned (t':=s.toks) (h':=Zy) (it:=z) (fun b' o hb e=>(sb.2 b' hb).trans e) (hf1 z (by simp)) f1 f3 f4 f5;have h2s:IsPair h' TI (.ref i1) (.ref i2):=g7 TI _ D.TIz D.TITO D.TIi1 D.TIi2 h2;exact ⟨.ref s.heap.objs.size,_,I2,rfl,⟨_,x,y,hT,rfl,rfl,fun Xw M9=>by rw [I.tuple_inj M9 hq]; exact hx,fun ys' hy'=>by rw [I.seqB_inj hy' VX]; exact hy⟩,
   ⟨z1,(sb.2 _ D.TIz).trans h2s,⟨_,_,(sb.2 _ D.TOz).trans g2⟩,D1 g3 fun o e=>(sb.2 _ D.i1z).trans e,g4.at fun o e=>(sb.2 _ D.i2z).trans e⟩,hf1⟩
 done:=by
  intro X hP hw hK hc i pins s σ H E I hf st hg;subst hP hw hK;obtain ⟨xs,ys,hq,VX,hx⟩:=hg;obtain ⟨Av,rv,p,hz⟩:=I.tuple hq;obtain ⟨JR,VS,p2,YS⟩:=I.seqB VX;obtain ⟨h1,h2,⟨c,d,h3⟩,h4,h5⟩:=st;have e1:=rv.length;have e2:=VS.length;refine HP (I.ok.hd hc) D h1 h2 h3 h4 h5 (show s.heap.IsTuple a Av.toArray from p) p2 ?_ fun h' g7=>⟨rfl,I.turnedL (t':=s.toks) hf fun b' o hb e=>?_⟩
  ·rcases hx with hx | hx
   ·exact .inl (by simp; lia)
   ·exact .inr (by simp; lia)
  ·simp only [ZF,ZI,or_false,not_or] at hb;exact g7 b' o hb.1 hb.2.2.1 hb.2.2.2.1 hb.2.2.2.2 e
 self:=fun _ _ _ _ _ st h=>wpAny_pyIter_zip st.1 h
def iZipB (K:ZD) (bb:Bool) (ta:TA):TI:=fun σ H R=>ta σ H fun vs H1=>∃ a b,vs=[.ref a,.ref b]/\(∃ xs,Ay K H1 a xs)/\(∃ ys,TF K bb H1 b ys)/\R (MS K bb a b) H1
theorem O6 (bb:Bool) {X:Cx} {es:List Expr} {x1} {tp:Pos} {a b:Expr} {ta:TA} {p pos:Pos} (hg:Gl X "zip") (hm:X.mg "zip"=none) (ha:PA X [a,b] ta) (hs:starEach [a,b] X.env=[(false,eval a X.env),(false,eval b X.env)]:=by rfl) (VW:starEach [b] X.env=[(false,eval b X.env)]:=by rfl) :
  PI X (.Tuple es x1 tp) (.Call (.Name "zip" p) [a,b] [] pos) (iZipB X.K bb ta):=by
 intro pins s σ H R I h;refine Call_ (GK I hg hm boot_zip (PyProof.Rows.callWith_type1 (B0 (ha pos pins s σ H _ I h) fun us s1 ⟨vs,H1,I1,r1,q1⟩=>?_) (by rw [hs,VW]) (by rw [VW]; rfl)));obtain ⟨a',b',e,⟨xs,hx⟩,⟨ys,hy⟩,q⟩:=q1;subst e;obtain ⟨Av,rv,pt,hz⟩:=I1.tuple hx;obtain ⟨JR,VS,pl,YS⟩:=I1.seqB hy;cases r1 with
 | cons r rr=>
  cases rr with
  | cons r' rr=>
   cases rr
   cases r
   cases r'
   have lta:a' < s1.heap.objs.size:=by obtain ⟨o,e,_⟩:=pt; exact ZK e
   have ltb:b' < s1.heap.objs.size:=by exact pl.lt
   refine Qy (show s1.heap.IsTuple a' Av.toArray from pt) pl fun h' g1 g2 g3 g4 g5 g6 g7=>?_
   have I2:Au X pins σ H1 { s1 with heap:=h' }:=I1.kept (t':=s1.toks) g7;have D:ZipApart (s1.heap.objs.size + 4) (s1.heap.objs.size + 2) (s1.heap.objs.size + 3) s1.heap.objs.size (s1.heap.objs.size + 1) a' b':=by
    have la:@LT.lt Nat _ a' s1.heap.objs.size:=lta;have lb:@LT.lt Nat _ b' s1.heap.objs.size:=ltb;constructor <;> (intro z0; have z1:@Eq Nat _ _:=z0; lia)
   refine wpAny_pyIter_zip g1 ?_;refine ⟨_,_,_,_,H1,rfl,I2,OY a' b' _ _ _ _ _ D,⟨g1,g2,⟨_,_,g3⟩,g4,g5⟩,fun c hc=>?_,q⟩;have le:s1.heap.objs.size<=c:=by
    simp only [ZF,ZI,or_false] at hc;rcases hc with rfl | rfl | rfl | rfl | rfl <;> first | exact Nat.le_add_right _ _ | exact ZJ _
   exact I1.fpOk le (I1.hok.fresh le)
theorem Qp {bb:Bool} {K:ZD} {a b:Addr} {xs ys:List V} {g:TG} {tb:TS} {D:Gs} {σ:St} {H:Hp} (ll:xs.length=ys.length) (Pv:Nat->St->Hp->Prop) (h0:Pv 0 σ H) (hl:∀ i σ H,i<=xs.length->Pv i σ H->Ay K H a xs/\TF K bb H b ys)
  (hs:∀ i x y σ H T,xs[i]? = some x->ys[i]? = some y->Pv i σ H->H T=none->g (.ref T) σ (upd H T (.tup [x,y])) fun AB H2=>tb { D with nx:=Pv (i + 1),ct:=Pv (i + 1),bk:=D.nx } AB H2) (hd:∀ σ H,Pv xs.length σ H->D.nx σ H) :
  ∃ W:Nat->Nat->St->Hp->Prop,(∃ m,W 0 m σ H)/\∀ i m σ H,W i m σ H ->
   ((MS K bb a b).stop i H/\D.nx σ H)\/((MS K bb a b).go i H/\∃ N:St->Hp->Prop,(∀ Aw H',N Aw H'->∃ m',m' < m/\W (i + 1) m' Aw H')/\∀ x H',(MS K bb a b).yld i H x H'->g x σ H' fun AB H2=>tb { D with nx:=N,ct:=N,bk:=D.nx } AB H2):=by
 exists fun i m σ H=>m=xs.length - i/\i<=xs.length/\Pv i σ H,⟨xs.length,by simp,ao _,h0⟩
 rintro i m σ H ⟨rfl,hi,p⟩;obtain ⟨q1,q2⟩:=hl i σ H hi p;by_cases BD:i < xs.length
 ·refine .inr ⟨⟨xs,ys,xs[i],ys[i]'(by lia),q1,q2,by simp [BD],Z9 _⟩,Pv (i + 1),fun Aw H' p'=>⟨xs.length - (i + 1),by lia,rfl,BD,p'⟩,fun x H' y=>?_⟩;obtain ⟨T,u,v,hT,rfl,rfl,e1,e2⟩:=y;exact hs i u v σ _ T (e1 xs q1) (e2 ys q2) p hT
 ·have e:i=xs.length:=by lia
  subst e;exact .inl ⟨⟨xs,ys,q1,q2,.inl (ZJ _)⟩,hd σ H p⟩
theorem Px {bb:Bool} {K:ZD} {a b:Addr} {xs ys:List V} {g:TG} {te:TE} {H:Hp} {σ0:St} {R:Addr->Hp->Prop} (ll:xs.length=ys.length) (I:Addr->Nat->St->Hp->List V->Prop) (big:xs.length < sizeLine)
  (h0:∀ D,H D=none->I D 0 σ0 (upd H D (.lst [])) [])
  (hs:∀ D i σ H' acc,H D=none->I D i σ H' acc->Ay K H' a xs/\TF K bb H' b ys/\H' D=some (.lst acc)/\acc.length=i)
  (turn:∀ D i σ H' acc x y T (B:St->V->Hp->Prop),H D=none->xs[i]? = some x->ys[i]? = some y->H' T=none->I D i σ H' acc->(∀ AB v H5,H5 D=some (.lst acc)->I D (i + 1) AB (upd H5 D (.lst (acc ++ [v]))) (acc ++ [v])->B AB v H5)->g (.ref T) σ (upd H' T (.tup [x,y])) fun AB H3=>te AB H3 (B AB))
  (fin:∀ D σ H' acc,H D=none->I D xs.length σ H' acc->R D H') :
  ∀ D,H D=none->∃ W:Nat->Nat->St->Hp->Prop,(∃ m,W 0 m σ0 (upd H D (.lst []))) /\
   ∀ i m Aw H',W i m Aw H'->((MS K bb a b).stop i H'/\R D H')\/((MS K bb a b).go i H'/\∀ x H2,(MS K bb a b).yld i H' x H2->g x Aw H2 fun AB H3=>JI AB H3 fun b H4=>
    if b=true then te AB H4 (fun v H5=>∃ acc,H5 D=some (.lst acc)/\acc.length < sizeLine/\∃ m',m' < m/\W (i + 1) m' AB (upd H5 D (.lst (acc ++ [v])))) else ∃ m',m' < m/\W (i + 1) m' AB H4):=by
 intro D hD;exists fun i m σ H'=>m=xs.length - i/\i<=xs.length/\∃ acc,I D i σ H' acc,⟨xs.length,rfl,ao _,[],h0 D hD⟩
 rintro i m σ H' ⟨rfl,hi,acc,p⟩;obtain ⟨s1,VR,s2,s3⟩:=hs D i σ H' acc hD p;by_cases BD:i < xs.length
 ·refine .inr ⟨⟨xs,ys,xs[i],ys[i]'(by lia),s1,VR,Z9 BD,Z9 (by lia)⟩,fun x H2 y=>?_⟩;obtain ⟨T,x',y',hT,rfl,rfl,ex,ey⟩:=y;have e:∀ (F:St->V->Hp->Prop) (G:St->Hp->Prop),(fun (AB:St) (H3:Hp)=>JI AB H3 fun b H4=>if b=true then te AB H4 (F AB) else G AB H4)=fun AB H3=>te AB H3 (F AB):=by
   intro F G;funext AB H3;show (if true=true then te AB H3 (F AB) else G AB H3)=_
   rw [if_pos rfl]
  rw [e (fun AB v H5=>∃ acc,H5 D=some (.lst acc)/\acc.length < sizeLine/\∃ m',m' < xs.length - i/\(m'=xs.length - (i + 1)/\i + 1<=xs.length/\∃ ES,I D (i + 1) AB (upd H5 D (.lst (acc ++ [v]))) ES)) (fun AB H4=>∃ m',m' < xs.length - i/\(m'=xs.length - (i + 1)/\i + 1<=xs.length/\∃ ES,I D (i + 1) AB H4 ES))];refine turn D i σ H' acc x' y' T _ hD (ex xs s1) (ey ys VR) hT p fun AB v H5 d5 p5=>?_
  exact ⟨acc,d5,by lia,xs.length - (i + 1),by lia,rfl,BD,_,p5⟩
 ·have e:i=xs.length:=by lia
  subst e;exact .inl ⟨⟨xs,ys,s1,VR,.inl (ZJ _)⟩,fin D σ H' acc hD p⟩
end L2
namespace K23
open PySem L2
section
variable {P:Program} {w:World} {K:ZD} {mg:Str->Option Value} {base:Heap}
theorem IV {f:Addr} {fd:FuncData} (F:Dm K "neighbours" "neighbours" CQ f fd):A8 P w K mg base Bt 1 f fd ["web"] (QZ K):=by
 refine F.ok Fp (fun vs H Q E h=>?_) (fun cdv A outer s H vs Q E hr h=>?_)
 ·obtain ⟨q,ps,ws,r,rfl,_⟩:=h;rfl
 ·obtain ⟨q,ps,ws,r,rfl,ok,k⟩:=h;obtain ⟨tp,tw,us,hq,htp,htw,hD⟩:=ok.web.ex;have nd:=Fp.nd;have hu:=CN hr;have big:1000 < sizeLine:=by decide
  have l30:=ok.l30;have l64:=ok.l64;refine ⟨_,Af (Dr (pv 0) (AO K rfl rfl (Aj (Ai (i:=1) nd rfl (Or.inl rfl)) (Aj (Ai (i:=2) nd rfl (Or.inl rfl)) AN))))
   (Af (Rx (ix:=3) (N:=["place"]) (σ0:=fun _=>[none]) nd rfl (Or.inl rfl) rfl (AD.plain (by decide +kernel) (by decide +kernel) rfl (by decide +kernel)) (fun σ _=>Ba.none _ _ _ ["place"] σ) (AR K rfl (pv 1))
    (fun s2 H C fp=>⟨Ai (i:=0) (show (["place"]:List Str).Nodup by decide +kernel) rfl (Or.inl rfl),AQ,pv 0,Ml⟩))
   (Af (BC PassesOwn.never rfl (AR K rfl (pv 2)) (AO K rfl rfl (Aj (Ai (i:=4) nd rfl (Or.inl rfl)) (Aj (Ai (i:=5) nd rfl (Or.inl rfl)) (Aj (Ai (i:=6) nd rfl (Or.inl rfl)) AN))))
    (Af (DG hu (AW hu (pv 3) (pv 4) (fun _ _=>rfl)) (pv 5) (pv 6) rfl) (Al (DG hu (AW hu (pv 3) (pv 5) (fun _ _=>rfl)) (pv 4) (pv 6) rfl))))
   (Al (A4 (pv 3))))),?_⟩
  exists _,rfl,q,_,rfl,Ay.of hq,rfl,_,_,rfl,_,_,rfl,rfl;refine ⟨_,rfl,tp,rfl,⟨_,Ay.of htp⟩,fun C hC=>⟨fun i m Aw H'=>m=ps.length - i/\i<=ps.length/\(∃ v,Aw=[v])/\∃ ds:List Addr,Aq H H'/\ds.length=i/\ds.Nodup/\C ∉ ds/\(∀ d ∈ ds,H d=none/\H' d=some (.dK []))/\H' C=some (.dK (sK (OC (ps.take i) ds))),
   ⟨_,rfl,ao _,⟨_,rfl⟩,[],Ad hC,rfl,.nil,by simp,by simp,Ab⟩,?_⟩⟩
  rintro i m Aw H' ⟨rfl,hi,⟨v,rfl⟩,ds,s1,dl,dn,dC,dH,OJ⟩;have NJ:=s1 _ _ htp;by_cases BD:i < ps.length
  ·refine .inr ⟨⟨_,V.str ps[i],Ay.of NJ,by rw [ZL,Z9 BD]; rfl⟩,?_⟩;rintro x H6 ⟨rfl,hx⟩;have M9:=hx _ (Ay.of NJ);rw [ZL,Z9 BD] at M9;cases M9
   have tl:(ps.take i).length=i:=by rw [ah]; lia
   have np:ps[i] ∉ (OC (ps.take i) ds).map (·.1):=by
    rw [Ja (by lia)];intro hm;obtain ⟨j,hj,e⟩:=ab hm;rw [cn] at e;have:=Hy ok.nd (Z9 (show j < ps.length by lia)) (by rw [Z9 BD,e]);lia
   refine ⟨_,rfl,fun d hd=>⟨_,Sum.inr ps[i],rfl,Ad hd _ _ OJ,?_,_,by lia,rfl,BD,⟨_,rfl⟩,ds ++ [d],fun b o z=>?_,by simp [dl],?_,?_,fun c hc=>?_,?_⟩⟩
   ·rw [CK];unfold OC;rw [ZA,bH];lia
   ·rw [Ae (Ah z hC)];exact Ad hd _ _ (s1 _ _ z)
   ·refine ba.mpr ⟨dn,aM.mpr ⟨by simp,.nil⟩,fun a ha b hb=>?_⟩;have e:b=d:=by simpa using hb
    subst e;rintro rfl;rw [(dH _ ha).2] at hd;cases hd
   ·rw [af,not_or];refine ⟨dC,fun hm=>?_⟩;have e:C=d:=by simpa using hm
    rw [<-e,OJ] at hd;cases hd
   ·rcases af.mp hc with hc | hc
    ·exists (dH c hc).1;rw [Ae (fun z=>dC (by rw [<-z]; exact hc))];exact Ad hd _ _ (dH c hc).2
    ·have e:c=d:=by simpa using hc
     subst e;exists s1.free hd;rw [Ae (fun z=>by rw [z,OJ] at hd; cases hd)];exact Ab
   ·rw [Ab,DI np];have e1:ps.take (i + 1)=ps.take i ++ [ps[i]]:=by rw [ZR,Z9 BD]; rfl
    have e2:OC (ps.take (i + 1)) (ds ++ [d])=OC (ps.take i) ds ++ [(ps[i],.ref d)]:=by
     unfold OC;rw [e1,fu (by lia),ZG];rfl
    rw [e2]
  ·have e0:i=ps.length:=by lia
   subst e0;rw [ZY] at OJ;refine .inl ⟨⟨_,Ay.of NJ,by rw [ZA]; exact ZJ _⟩,?_⟩;have NB0:NB H' C ps ds (LG (ws.take 0)) 0:=⟨OJ,dl,dn,dC,fun j p d e1 e2=>⟨[],(dH d (ZE e2)).2,ZJ _,fun y=>⟨fun z=>absurd z ZI,fun ⟨u,hu,_⟩=>absurd hu ZI⟩⟩⟩
   have Z7:Su H' ps ds (BP (ws.take 0)):=fun j p d nv e1 e2 hr y v hy=>by
    have:nv=[]:=Rd.inj hr (.inl (dH d (ZE e2)).2);subst this;cases hy
   have hwl:us.length=ws.length:=by rw [Jz hD,ZA]
   refine ⟨_,rfl,tw,rfl,⟨_,Ay.of (s1 _ _ htw)⟩,ME (xs:=us) (fun i σ H2=>(∃ v4 v5 v6,σ=[some (.ref q),some (.ref tp),some (.ref tw),some (.ref C),v4,v5,v6])/\Aq H H2/\NB H2 C ps ds (LG (ws.take i)) (2 * i)/\Su H2 ps ds (BP (ws.take i))) ⟨⟨_,_,_,rfl⟩,s1,NB0,Z7⟩ (fun i σ H2 _ hP=>Ay.of (hP.2.1 _ _ htw)) (fun i x σ H2 hx hP rt bk=>?_) (fun σ H2 hP=>?_)⟩
   ·obtain ⟨⟨v4,v5,v6,rfl⟩,s2,nb,nbv⟩:=hP;obtain ⟨u,t,gu,rfl,ht⟩:=EO hD hx;have Yd:i < ws.length:=(ZN.mp gu).1;have XU:=ok.ends u (ZE gu);exists t,_,rfl,Ay.of (s2 _ _ ht),rfl,_,_,rfl,_,_,rfl,_,_,rfl,rfl;obtain ⟨j,d,nv,a1,a2,a3,a4,a5,a6⟩:=nb.get ok.nd XU.1;obtain ⟨DZ,b1,b2,b3⟩:=Nn nv u.2.1 (.int u.2.2);have dH1:∀ c ∈ ds,H c=none:=fun c hc=>(dH c hc).1
    exists _,rfl,_,rfl,_,rfl,C,_,rfl,?_,_,rfl,d,_,rfl,FD.k (k:=Sum.inr u.2.1) a4 (by rw [CK]; lia)
    ·have:=Cn.k (k:=Sum.inr u.1) nb.top;rw [a3] at this;exact this
    rw [b1];have Lr:=nb.put ok.nd a1 a2 a4 b2 b3 a6 a5;have Ww:=nbv.put ok.nd nb.nd a1 a2 a4 b1 (fun _ _ _=>Qt) (MH gu);have s3:Aq H (upd H2 d (.dK (sK DZ))):=fun b o z=>by
     rw [Ae (Ah z (dH1 d (ZE a2)))];exact s2 _ _ z
    generalize upd H2 d (.dK (sK DZ))=H3 at Lr Ww s3 ⊢;obtain ⟨j',d',mv,c1,c2,c3,c4,c5,c6⟩:=Lr.get ok.nd XU.2;obtain ⟨mv',e1,e2,e3⟩:=Nn mv u.1 (.int u.2.2);exists _,rfl,_,rfl,_,rfl,C,_,rfl,?_,_,rfl,d',_,rfl,FD.k (k:=Sum.inr u.1) c4 (by rw [CK]; lia)
    ·have:=Cn.k (k:=Sum.inr u.2.1) Lr.top;rw [c3] at this;exact this
    rw [e1];have nb3:=Lr.put ok.nd c1 c2 c4 e2 e3 c6 c5;have YG:=Ww.put (Ed':=BP (ws.take (i + 1))) ok.nd Lr.nd c1 c2 c4 e1 (fun _ _ _ h=>h) (MH gu).symm;refine ⟨⟨_,_,_,rfl⟩,fun b o z=>?_,nb3.mono (fun a b=>(Sg gu a b).symm) (by lia),YG⟩;rw [Ae (Ah z (dH1 d' (ZE c2)))];exact s3 _ _ z
   ·obtain ⟨⟨v4,v5,v6,rfl⟩,s2,nb,nbv⟩:=hP;rw [hwl,ZY] at nb nbv;exact ⟨_,rfl,k H2 C ds s2 (nb.mono (fun _ _=>Iff.rfl) (by lia)) nbv hC fun d hd=>(dH d hd).1⟩
end
section
variable {P:Program} {w:World} {K:ZD} {mg:Str->Option Value} {base:Heap}
structure NbF (K:ZD) (mg:Str->Option Value) (f:Addr) (fd:FuncData):Prop where
 F:Dm K "neighbours" "neighbours" CQ f fd
 mg:mg "neighbours"=some (.ref f)
 b:HM K fd ["web"] []
theorem Ny {f fN:Addr} {fd fdN:FuncData} (NK:NbF K mg fN fdN) (hmi:mg "min"=none) (F:Dm K "nearest" "nearest" Fb f fd):A8 P w K mg base Bt 2 f fd ["web","starts"] (QY K):=by
 have GN:A8 P w K mg base Bt 1 fN fdN ["web"] (QZ K):=IV NK.F;refine F.ok IF (fun vs H Q E h=>?_) (fun cdv A outer s H vs Q E hr h=>?_)
 ·obtain ⟨q,st,ps,ss,ws,r,rfl,_⟩:=h;rfl
 ·obtain ⟨q,st,ps,ss,ws,r,rfl,ok,pos,uniq,hst,ssne,ssn,sssub,k⟩:=h;have nd:=IF.nd;have hu:=CN hr;have Jn:=hr.units;have big:1000 < sizeLine:=by decide
  have l30:=ok.l30;have ssl:ss.length<=30:=by
   have:=Ca ssn sssub;lia
  refine ⟨_,Af (Ao (i:=2) nd rfl (Or.inl rfl) (Am GN hr (by rfl) NK.mg NK.F.kp NK.b .nil Ax (Aa (pv 0) Ac)))
   (Af (Ao (i:=3) nd rfl (Or.inr rfl) (IT (N:=["start"]) (σ0:=fun _=>[none]) rfl (AD.plain (by decide +kernel) (by decide +kernel) rfl (by decide +kernel)) (fun σ _=>Ba.none _ _ _ ["start"] σ) (PI.or (Mh K rfl (pv 1)) (AR K rfl (pv 1)))
    (fun s2 H C fp=>⟨Ai (i:=0) (show (["start"]:List Str).Nodup by decide +kernel) rfl (Or.inl rfl),AQ,pv 0,AH (Aa Ag (Aa (pv 0) Ac))⟩)))
   (Af (Ao (i:=4) nd rfl (Or.inl rfl) Ml)
   (Af (Rw PassesOwn.never (Rv (pv 3) (fun _=>rfl))
    (Af (Dr (SO (Ak (J3 rfl Jn) (by rfl) hmi PyProof.Rows.boot_min (Aa
      (AS (N:=["name","reached"]) (σ0:=fun σ=>[none,some 3].map fun j=>j.bind fun j=>(σ[j]?).join) rfl
       (AD.caught (by rfl) (by decide +kernel) rfl (by decide +kernel) (by intro y hy; simp only [ZF,ZI,or_false] at hy; rcases hy with rfl <;> rfl)
        (by intro y hy e; simp only [ZF,ZI,or_false] at hy; rcases hy with rfl | rfl | rfl <;> first | exact ⟨_,rfl⟩ | cases e))
       (fun σ _=>Ba.of [none,some 3] rfl (by
        intro i j x h1 h2;match i,h1,h2 with
        | 0,_,h2=>cases h2
        | 1,h1,h2=>cases h1; cases h2; exact ⟨rfl,.inl rfl,.inl rfl⟩
        | n + 2,h1,_=>cases h1)) (O7 (pv 3))
       (fun s2 H C fp=>⟨Ai (i:=0) (show (["name","reached"]:List Str).Nodup by decide +kernel) rfl (Or.inl rfl),AQ,AH (Aa (AW hu (pv 1) (pv 0) (fun _ _=>rfl)) (Aa (pv 0) Ac))⟩)) Ac)))
      (AO K rfl rfl (Aj (AO K rfl rfl (Aj (Ai (i:=5) nd rfl (Or.inl rfl)) (Aj (Ai (i:=6) nd rfl (Or.inl rfl)) AN))) (Aj (Ai (i:=7) nd rfl (Or.inl rfl)) AN))))
    (Af (SN (pv 3) (pv 7))
    (Af (DG hu (pv 4) (pv 7) (AH (Aa (pv 5) (Aa (pv 6) Ac))) rfl)
    (Al (BC PassesOwn.never rfl (O7 (AW hu (pv 2) (pv 7) (fun _ _=>rfl))) (Ai (i:=8) nd rfl (Or.inl rfl))
     (Al (Cr (F3 (PF hu (pv 8) (pv 4)))
      (Af (Ao (i:=9) nd rfl (Or.inl rfl) (AH (Aa (As Bg (pv 5) (AW hu (AW hu (pv 2) (pv 7) (fun _ _=>rfl)) (pv 8) (fun _ _=>rfl))) (Aa (pv 6) Ac))))
      (Al (DG hu (pv 3) (pv 8) (Ak (JT rfl Jn) (by rfl) hmi PyProof.Rows.boot_min (Aa (pv 9) (Aa (R3 hu (pv 3) (pv 8) (pv 9) ⟨rfl,rfl,rfl,rfl⟩) Ac))) rfl))) Bo))))))))
   (Al (A4 (pv 4)))))),?_⟩
  refine ⟨_,rfl,q,ps,ws,r,rfl,ok,fun H1 B ds s1 nb nbv hB hds=>?_⟩;have nbAt:∀ a,a ∈ ds->∃ u,H1 a=some u:=fun a hm=>by
   obtain ⟨i,hi,e⟩:=ab hm;have Yd:i < ps.length:=by rw [<-nb.len]; exact hi
   obtain ⟨nv,a1,_⟩:=nb.inner i ps[i] a (Z9 Yd) (by rw [Z9 hi,e]);exact ⟨_,a1⟩
  have Wc:=nb.top;rcases hst with hst | hst
  case' inl=>
   refine .inl ⟨_,rfl,st,rfl,⟨_,AZ.of (s1 _ _ hst)⟩,fun RA hRA=>?_⟩
  case' inr=>
   refine .inr ⟨_,rfl,st,rfl,⟨_,Ay.of (s1 _ _ hst)⟩,fun RA hRA=>?_⟩
  all_goals
   refine ⟨fun i m Aw H'=>m=ss.length - i/\i<=ss.length/\(∃ v,Aw=[v])/\∃ nv:List (Str × V),Aq H1 H'/\H' RA=some (.dK (sK nv))/\nv.map (·.1)=ss.take i/\∀ y v,(y,v) ∈ nv->J8 H' v (0,y),
    ⟨_,rfl,ao _,⟨_,rfl⟩,[],Ad hRA,Ab,rfl,fun y v hy=>absurd hy ZI⟩,?_⟩
   rintro i m Aw H' ⟨rfl,hi,⟨v,rfl⟩,nv,s2,OJ,nk,np⟩;have NL:=s2 _ _ (s1 _ _ hst);by_cases BD:i < ss.length
   ·refine .inr ⟨⟨_,V.str ss[i],by first | exact AZ.of NL | exact Ay.of NL,by rw [ZL,Z9 BD]; rfl⟩,?_⟩;rintro x H6 ⟨rfl,hx⟩;have M9:=hx _ (by first | exact AZ.of NL | exact Ay.of NL);rw [ZL,Z9 BD] at M9;cases M9
    have nn:ss[i] ∉ nv.map (·.1):=by
     rw [nk];intro hm;obtain ⟨j,hj,e⟩:=ab hm;rw [ah] at hj;rw [cn] at e;have:=Hy ssn (Z9 (show j < ss.length by lia)) (by rw [Z9 BD,e]);lia
    have nl:nv.length=i:=by
     have:=congrArg b9 nk;rw [ZA,ah] at this;lia
    refine ⟨_,rfl,_,rfl,(by show 2<=sizeLine; lia),fun t ht=>⟨_,Sum.inr ss[i],rfl,Ad ht _ _ OJ,by rw [CK]; lia,_,by lia,rfl,BD,⟨_,rfl⟩,nv ++ [(ss[i],.ref t)],fun b o z=>?_,by rw [Ab,DI nn],?_,fun y v hy=>?_⟩⟩
    ·rw [Ae (Ah z hRA)];exact Ad ht _ _ (s2 _ _ z)
    ·rw [ZG,nk,ZR,Z9 BD]; rfl
    ·have tk:∀ b xs,(upd H6 t (.tup [.int 0,.str ss[i]])) b=some (.tup xs)->(upd (upd H6 t (.tup [.int 0,.str ss[i]])) RA (.dK (BM (sK nv) (Sum.inr ss[i]:Bj) (.ref t)))) b=some (.tup xs):=fun b xs z=>by
      rw [Ae (Cy z (Ad ht _ _ OJ) (by intro z; cases z))]; exact z
     rcases af.mp hy with hy | hy
     ·exact (np y v hy).same fun b xs z=>tk b xs (Ad ht _ _ z)
     ·simp only [aa,Prod.mk.injEq] at hy;obtain ⟨rfl,rfl⟩:=hy;exact ⟨t,rfl,tk _ _ Ab⟩
   ·have e0:i=ss.length:=by lia
    subst e0;rw [ZY] at nk;refine .inl ⟨⟨_,by first | exact AZ.of NL | exact Ay.of NL,by rw [ZA]; exact ZJ _⟩,fun SA hSA=>?_⟩;have sS:=Ad (o:=.dK []) hSA;have aR:RA ∉ ds/\RA ≠ B/\RA ≠ SA/\H RA=none:=⟨(fun hm=>by obtain ⟨u,e⟩:=nbAt RA hm; rw [hRA] at e; cases e),(fun z=>by rw [z,Wc] at hRA; cases hRA),(fun z=>by rw [<-z,OJ] at hSA; cases hSA),s1.free hRA⟩
    have aS:SA ∉ ds/\SA ≠ B/\SA ≠ RA/\H SA=none:=⟨(fun hm=>by obtain ⟨u,e⟩:=nbAt SA hm; rw [s2 _ _ e] at hSA; cases hSA),(fun z=>by rw [z,s2 _ _ Wc] at hSA; cases hSA),(fun z=>aR.2.2.1 z.symm),(s1.trans s2).free hSA⟩
    have s3:Aq H1 (upd H' SA (.dK [])):=s2.trans sS;have N0:NI H (upd H' SA (.dK [])) ps ws B RA SA ds nv [] (fun _ _=>False) (fun y p=>y ∈ ss/\p=(0,y)):=by
     refine ⟨s1.trans s3,nb.r.same s3,nbv.of nb.r (fun d _ nv z=>by rcases z with a | ⟨o,a⟩; exact .inl (s3 _ _ a); exact .inr ⟨o,s3 _ _ a⟩),sS _ _ OJ,Ab,⟨by rw [nk]; exact ssn,fun y v hy=>⟨(0,y),(np y v hy).same fun b xs z=>sS _ _ z,by rw [<-nk]; exact ZO.mpr ⟨_,hy,rfl⟩,rfl⟩,fun y p hp=>?_⟩,⟨.nil,fun y v hy=>absurd hy ZI,fun y p hp=>hp.elim⟩,fun y hy=>sssub y (by rw [<-nk]; exact hy),fun y hy=>absurd hy ZI⟩;obtain ⟨hy,rfl⟩:=hp;rw [<-nk] at hy;obtain ⟨⟨z,v⟩,a,b⟩:=ZO.mp hy;have b':z=y:=b;subst b';exact ⟨v,a,(np z v a).same fun b xs z=>sS _ _ z⟩
    have D0:TN ws ss (fun _ _=>False) (fun y p=>y ∈ ss/\p=(0,y)):=⟨fun _ _ h=>h.elim,fun y p ⟨h1,h2⟩=>by subst h2; exact ⟨h1,.nil y⟩,fun _ _ _ _ h=>h.elim,fun s hs=>.inr ⟨(0,s),⟨hs,rfl⟩,D4.refl _⟩⟩
    clear OJ NL np;generalize upd H' SA (.dK [])=H5 at N0 ⊢;refine ⟨fun m σ H2=>∃ nvR nvS S R v5 v6 v7 v8 v9,m=ps.length - nvS.length/\σ=[some (.ref q),some (.ref st),some (.ref B),some (.ref RA),some (.ref SA),v5,v6,v7,v8,v9]/\NI H H2 ps ws B RA SA ds nvR nvS S R/\TN ws ss S R/\∀ y p,R y p->∀ q,¬ S y q,
     ⟨_,nv,[],_,_,_,_,_,_,_,rfl,rfl,N0,D0,fun _ _ _ _ h=>h⟩,?_⟩
    clear N0 D0 hSA sS s3 s2 nk;rintro m σ H2 ⟨nvR,nvS,S,R,v5,v6,v7,v8,v9,rfl,rfl,N,Dj,dis⟩;exists _,rfl,_,.inr (.inr ⟨_,N.dR,rfl⟩);by_cases hne:nvR=[]
    ·subst hne;refine BZ ?_;have all:∀ x ∈ ps,∃ q,S x q:=Dj.done (fun y p h=>by obtain ⟨v,a,_⟩:=N.pR.2.2 y p h; cases a) ssne ok.con (fun T x hx tx cl=>ok.con (fun z=>T z->T r) (fun h=>h) (fun a b hab h tb=>h (cl b a hab.symm tb)) x hx tx) sssub;refine ⟨_,rfl,k H2 SA nvS N.same aS.2.2.2 N.dS N.pS.1 (fun x=>⟨N.subS x,fun hx=>N.inS.mpr (all x hx)⟩) fun y v hy=>?_⟩;obtain ⟨p,h1,h2⟩:=N.pS.2.1 y v hy;exact ⟨p,h1,Dj.near y p h2⟩
    ·have Zg:(!(sK nvR).isEmpty)=true:=by cases nvR with
      | nil=>exact absurd rfl hne
      | cons=>rfl
     rw [Zg];refine De ?_;obtain ⟨NN,hNN⟩:∃ NN:St->Hp->Prop,NN=fun Aw H'=>∃ m',m' < ps.length - nvS.length/\∃ nvR nvS S R v5 v6 v7 v8 v9,m'=ps.length - nvS.length/\Aw=[some (.ref q),some (.ref st),some (.ref B),some (.ref RA),some (.ref SA),v5,v6,v7,v8,v9]/\NI H H' ps ws B RA SA ds nvR nvS S R/\TN ws ss S R/\∀ y p,R y p->∀ q,¬ S y q:=⟨_,rfl⟩
     exists NN,fun Aw H' z=>by rw [hNN] at z; exact z
     have lR:=N.lenR;have lS:=N.lenS;refine ⟨_,rfl,RA,_,rfl,.inl N.dR,fun o H3 fz C hC=>?_⟩;have fz':H3=upd H2 RA (.frz o (.dK (sK nvR))):=by
      rcases fz with ⟨_,e⟩ | ⟨e,_⟩
      ·exact e
      ·rw [N.dR] at e; cases e
     have hR3:=fz.at;have Yy:∀ b xs,H2 b=some (.tup xs)->H3 b=some (.tup xs):=fun b xs z=>by
      rw [fz.ne (Cy z N.dR (by intro z; cases z))]; exact z
     refine ⟨fun i m Aw H'=>m=nvR.length - i/\i<=nvR.length/\(∃ v,Aw=[v,some (.ref RA)])/\∃ (acc:List V) (ks:List ((Int × Str) × Str)),Aq H3 H'/\H' C=some (.lst acc)/\acc.length=i/\ks.length=i/\(∀ (j:Nat) v k,acc[j]? = some v->ks[j]? = some k->U8 H' v k)/\(∀ (j:Nat) y v,j < i->nvR[j]? = some (y,v)->∃ p,J8 H3 v p/\ks[j]? = some (p,y)),
      ⟨_,rfl,ao _,⟨_,rfl⟩,[],[],Ad hC,Ab,rfl,rfl,fun j v k h=>(by simp at h),fun j y v hj=>absurd hj (b0 _)⟩,?_⟩
     rintro i m Aw H' ⟨rfl,hi,⟨v,rfl⟩,acc,ks,s4,OJ,al,kl,hky,hks⟩;have WS:=s4 _ _ hR3;have nCR:RA ≠ C:=Ah hR3 hC;by_cases BD:i < nvR.length
     ·refine .inr ⟨⟨WS,by rw [CK]; exact BD⟩,?_⟩;rintro z H6 ⟨rfl,key,v2,ek,rfl⟩;obtain ⟨y,ey,rfl⟩:=Ua ek;have hm:=ZE ey;obtain ⟨p,hp,hRp⟩:=N.pR.2.1 y v2 hm;have hp3:=hp.same Yy;refine ⟨_,rfl,_,rfl,RA,v2,rfl,.inl ⟨_,Sum.inr y,.inr ⟨o,WS⟩,rfl,(DE N.pR.1 hm).symm⟩,_,rfl,(by show 2<=sizeLine; lia),fun t ht=>?_⟩;have st:=Ad (o:=.tup [v2,.str y]) ht;have hC2:=st _ _ OJ;have tC:∀ b xs,(upd H6 t (.tup [v2,.str y])) b=some (.tup xs)->(upd (upd H6 t (.tup [v2,.str y])) C (.lst (acc ++ [.ref t]))) b=some (.tup xs):=fun b xs z=>by
       rw [Ae (Cy z hC2 (by intro z; cases z))]; exact z
      refine ⟨acc,hC2,by lia,_,by lia,rfl,BD,⟨_,rfl⟩,acc ++ [.ref t],ks ++ [(p,y)],fun b u z=>?_,Ab,by simp [al],by simp [kl],fun j v k h1 h2=>?_,fun j y' v' hj h=>?_⟩
      ·rw [Ae (Ah z hC)];exact st _ _ (s4 _ _ z)
      ·by_cases hj:j < acc.length
       ·rw [aF hj] at h1;rw [aF (by lia)] at h2;exact (hky j v k h1 h2).same fun b xs z=>tC b xs (st _ _ z)
       ·rw [ay (by lia)] at h1;rw [ay (by lia)] at h2;have j0:j - acc.length=0:=by
         have:=(ZN.mp h1).1;simp at this;lia
        have j1:j - ks.length=0:=by lia
        rw [j0] at h1;rw [j1] at h2;cases h1
        cases h2
        obtain ⟨t2,e2,g2⟩:=hp3;subst e2;exact ⟨t,t2,rfl,tC _ _ Ab,t2,rfl,tC _ _ (st _ _ (s4 _ _ g2))⟩
      ·by_cases ej:j=i
       ·subst ej;rw [ey] at h;cases h
        exact ⟨p,hp3,by rw [ay (by lia),kl,di]; rfl⟩
       ·obtain ⟨p',a1,a2⟩:=hks j y' v' (by lia) h;exact ⟨p',a1,by rw [aF (by lia)]; exact a2⟩
     ·have e0:i=nvR.length:=by lia
      subst e0;have ksne:ks ≠ []:=by
       intro z;rw [z] at kl;exact hne (c0.mp kl.symm)
      refine .inl ⟨⟨WS,by rw [CK]; exact ZJ _⟩,C,acc,ks,rfl,OJ,by lia,ksne,hky,fun v kk hk hKy hmin=>?_⟩;exists RA,o,sK nvR,WS,fun ob w z=>?_
      ·have z':H RA=some (.frz ob w):=z;rw [aR.2.2.2] at z';cases z'
      obtain ⟨⟨d0,IB⟩,here⟩:=kk;obtain ⟨t,t2,rfl,ht,t2',e2,DM⟩:=hKy;cases e2
      have t45:∀ b xs,H' b=some (.tup xs)->(upd H' RA (.dK (sK nvR))) b=some (.tup xs):=fun b xs z=>by
       rw [Ae (Cy z WS (by intro z; cases z))]; exact z
      have s25:Aq H2 (upd H' RA (.dK (sK nvR))):=fun b u z=>by
       by_cases eb:b=RA
       ·subst eb;rw [N.dR] at z;cases z
        exact Ab
       ·rw [Ae eb];refine s4 _ _ ?_;rw [fz.ne eb]; exact z
      have N5:=N.grow s25;have XY:=t45 _ _ ht;have WD:=t45 _ _ DM;have inR:∀ j y p,ks[j]? = some (p,y)->R y p:=fun j y p h=>by
       have hj:j < nvR.length:=by
        have:=(ZN.mp h).1;lia
       obtain ⟨p',a1,a2⟩:=hks j nvR[j].1 nvR[j].2 hj (Z9 hj);rw [h] at a2;cases a2
       obtain ⟨p'',b1,b2⟩:=N.pR.2.1 _ _ (aN hj);rw [a1.fn (b1.same Yy)];exact b2
      have hRh:R here (d0,IB):=by
       obtain ⟨j,hj,ej⟩:=ab hk;exact inR j here (d0,IB) (by rw [Z9 hj,ej])
      have least:∀ z p,R z p->D4 (d0,IB) p:=fun z p hz=>by
       obtain ⟨v,a,b⟩:=N.pR.2.2 z p hz;obtain ⟨j,hj,ej⟩:=ab a;obtain ⟨p',a1,a2⟩:=hks j z v hj (by rw [Z9 hj,ej]);have:=a1.fn (b.same Yy);subst this;exact hmin _ (ZE a2)
      have nSh:∀ q,¬ S here q:=dis here _ hRh;have nearH:NY ws ss here (d0,IB):=Dj.pick pos hRh nSh least;exists t,_,rfl,Ay.of XY,rfl,_,_,rfl,t2,_,rfl,Ay.of WD,rfl,_,_,rfl,_,_,rfl,rfl,_,_,rfl,rfl;generalize upd H' RA (.dK (sK nvR))=H5 at N5 XY WD s25 ⊢;have hin:here ∈ nvR.map (·.1):=N5.inR.mpr ⟨_,hRh⟩;have hps:here ∈ ps:=N5.subR here hin;exists _,rfl,_,rfl,RA,_,Sum.inr here,rfl,N5.dR,rfl,by rw [Hq,decide_eq_true hin]
      rw [SG];have N6:=N5.setR aR (N5.pR.drop here) (fun y hy=>by
       obtain ⟨e,he,ee⟩:=ZO.mp hy;exact N5.subR y (ZO.mpr ⟨e,(aU.mp he).1,ee⟩))
      generalize upd H5 RA (.dK (sK (nvR.filter fun q=>decide (q.1 ≠ here))))=H6 at N6 ⊢;have nhS:here ∉ nvS.map (·.1):=fun h=>by
       obtain ⟨q,hq⟩:=N6.inS.mp h;exact nSh q hq
      refine ⟨_,rfl,_,rfl,(by show 2<=sizeLine; lia),fun t3 YY=>?_⟩;have N7:=N6.grow (Ad (o:=.tup [.int d0,.str IB]) YY);have WC:(upd H6 t3 (.tup [.int d0,.str IB])) t3=some (.tup [.int d0,.str IB]):=Ab;generalize upd H6 t3 (.tup [.int d0,.str IB])=H7 at N7 WC ⊢;exists _,rfl,_,rfl,SA,_,rfl,FD.k (k:=Sum.inr here) N7.dS (by rw [CK]; have:=N7.lenS; lia);rw [DI nhS];have N8:=N7.setS aS (N7.pS.put (DI nhS) (p:=(d0,IB)) ⟨t3,rfl,WC⟩) (fun y hy=>by
       rw [ZG] at hy;rcases af.mp hy with hy | hy
       ·exact N7.subS y hy
       ·have:y=here:=by simpa using hy
        rw [this]; exact hps)
      generalize upd H7 SA (.dK (sK (nvS ++ [(here,.ref t3)])))=H8 at N8 ⊢;obtain ⟨S',OI⟩:∃ S':Str->Int × Str->Prop,S'=fun z q=>(z=here/\q=(d0,IB))\/(z ≠ here/\S z q):=⟨_,rfl⟩
      obtain ⟨PU,hnvS⟩:∃ PU:List (Str × V),PU=nvS ++ [(here,.ref t3)]:=⟨_,rfl⟩
      rw [<-OI,<-hnvS] at N8;have nSl:PU.length=nvS.length + 1:=by rw [hnvS]; simp
      have nearS:∀ y q,S' y q->NY ws ss y q:=fun y q h=>by
       rw [OI] at h;rcases h with ⟨rfl,rfl⟩ | ⟨_,h⟩
       ·exact nearH
       ·exact Dj.near y q h
      have hSh:S' here (d0,IB):=by rw [OI]; exact .inl ⟨rfl,rfl⟩
      have toS:∀ y q,S y q->∃ q',S' y q':=fun y q h=>by
       by_cases e:y=here
       ·rw [e]; exact ⟨_,hSh⟩
       ·exact ⟨q,by rw [OI]; exact .inr ⟨e,h⟩⟩
      obtain ⟨i0,d,SY,a1,a2,a3,a4,a5⟩:=N8.nr.get ok.nd hps;have dm:=ZE a2;refine ⟨_,rfl,_,rfl,B,.ref d,rfl,?_,d,sK SY,rfl,a4,fun o9 H9 fz9=>?_⟩
      ·have:=Cn.k (k:=Sum.inr here) N8.nr.top;rw [a3] at this;exact this
      have N9:=N8.frz aR.1 aS.1 hds a1 a2 fz9 a5;obtain ⟨Pv,hPv⟩:∃ Pv:Nat->St->Hp->Prop,Pv=fun i σ H'=>∃ HR R' v8 v9,σ=[some (.ref q),some (.ref st),some (.ref B),some (.ref RA),some (.ref SA),some (.int d0),some (.str IB),some (.str here),v8,v9]/\NI H H' ps ws B RA SA ds HR PU S' R'/\H' d=some (.frz o9 (.dK (sK SY))) /\
        (∀ y p,R' y p->p.2 ∈ ss/\Bl ws p.2 y p.1)/\(∀ s ∈ ss,(∃ q,S' s q)\/∃ q,R' s q/\D4 q (0,s)) /\
        (∀ x q y l,S' x q->BP ws x y l->(∃ q',S' y q')\/(∃ q',R' y q'/\D4 q' (q.1 + l,q.2))\/(x=here/\∀ (j:Nat) (v:V),j < i->SY[j]? ≠ some (y,v)))/\(∀ y p,R' y p->∀ q,¬ S' y q):=⟨_,rfl⟩
      refine Qq (a:=d) (o:=o9) (kvs:=sK SY) Pv ?_ (fun i σ H' _ hP=>by rw [hPv] at hP; obtain ⟨_,_,_,_,_,_,z,_⟩:=hP; exact z) (fun i key v σ H' hx hP rt bk=>?_) (fun σ H' hP=>?_)
      ·rw [hPv];refine ⟨_,_,_,_,rfl,N9,fz9.at,fun y p h=>Dj.reach y p h.2,fun s hs=>?_,fun x qq y l hx he=>?_,fun y p h qq hq=>?_⟩
       ·rcases Dj.start s hs with ⟨qq,h⟩ | ⟨qq,h,le⟩
        ·exact .inl (toS s qq h)
        ·by_cases e:s=here
         ·rw [e]; exact .inl ⟨_,hSh⟩
         ·exact .inr ⟨qq,⟨e,h⟩,le⟩
       ·by_cases ex:x=here
        ·exact .inr (.inr ⟨ex,fun j v hj=>absurd hj (b0 _)⟩)
        ·rw [OI] at hx;rcases hx with ⟨h,_⟩ | ⟨_,hx⟩
         ·exact absurd h ex
         ·rcases Dj.relax x qq y l hx he with ⟨q',h⟩ | ⟨q',h,le⟩
          ·exact .inl (toS y q' h)
          ·by_cases e:y=here
           ·rw [e]; exact .inl ⟨_,hSh⟩
           ·exact .inr (.inl ⟨q',⟨e,h⟩,le⟩)
       ·rw [OI] at hq;rcases hq with ⟨h2,_⟩ | ⟨_,h2⟩
        ·exact h.1 h2
        ·exact dis y p h.2 qq h2
      ·rw [hPv] at hP;obtain ⟨HR,R',v8,v9,rfl,Sv,hf,rch,sta,rel,T6⟩:=hP;obtain ⟨y,e1,rfl⟩:=Ua hx;have hym:=ZE e1;obtain ⟨w0,hw0⟩:∃ w0,B9 (sK SY) (Sum.inr y:Bj)=some w0:=by
        have:(B9 (sK SY) (Sum.inr y:Bj)).isSome=true:=by rw [Hq,decide_eq_true (ZO.mpr ⟨_,hym,rfl⟩)]
        exact cj.mp this
       obtain ⟨l,rfl,ed⟩:=Sv.nbv i0 here d SY a1 a2 (.inr ⟨o9,hf⟩) y w0 (Kl hw0);have hyp:y ∈ ps:=by
        obtain ⟨u,hu,e⟩:=ed.adj;obtain ⟨q1,q2⟩:=ok.ends u hu;rcases e with ⟨_,e⟩ | ⟨e,_⟩
        ·rw [<-e]; exact q2
        ·rw [<-e]; exact q1
       exists _,rfl,_,rfl,SA,_,rfl,Cn.k (k:=Sum.inr y) Sv.dS,_,rfl;rw [Hq];have step:∀ {z:Str},(∀ (j:Nat) (v:V),j < i->SY[j]? ≠ some (z,v))->z ≠ y->∀ (j:Nat) (v:V),j < i + 1->SY[j]? ≠ some (z,v):=fun h2 hz j v hj e=>by
        by_cases ej:j=i
        ·subst ej;rw [e1] at e;cases e
         exact hz rfl
        ·exact h2 j v (by lia) e
       by_cases hy:y ∈ PU.map (·.1)
       ·rw [decide_eq_true hy];refine BZ ?_;show Pv (i + 1) _ _
        rw [hPv];refine ⟨HR,R',_,_,rfl,Sv,hf,rch,sta,fun x qq z l' M9 he=>?_,T6⟩;rcases rel x qq z l' M9 he with h | h | ⟨h1,h2⟩
        ·exact .inl h
        ·exact .inr (.inl h)
        ·by_cases ez:z=y
         ·rw [ez]; exact .inl (Sv.inS.mp hy)
         ·exact .inr (.inr ⟨h1,step h2 ez⟩)
       ·rw [decide_eq_false hy];refine De ?_;have nSy:∀ qq,¬ S' y qq:=fun qq h=>hy (Sv.inS.mpr ⟨qq,h⟩)
        have dgT:Cn H' B (.str here) (some (.ref d)):=by
         have:=Cn.k (k:=Sum.inr here) Sv.nr.top;rw [a3] at this;exact this
        refine ⟨_,rfl,_,rfl,_,rfl,B,.ref d,rfl,dgT,_,rfl,d,.int l,rfl,.inl ⟨_,Sum.inr y,.inr ⟨o9,hf⟩,rfl,hw0.symm⟩,_,_,rfl,rfl,_,rfl,(by show 2<=sizeLine; lia),fun t4 YX=>?_⟩;have s4':=Ad (o:=.tup [.int (d0 + l),.str IB]) YX;have Q9:=Sv.grow s4';have WG:=s4' _ _ hf;have WB:(upd H' t4 (.tup [.int (d0 + l),.str IB])) t4=some (.tup [.int (d0 + l),.str IB]):=Ab;generalize upd H' t4 (.tup [.int (d0 + l),.str IB])=QA at Q9 WG WB ⊢;have cand:J8 QA (.ref t4) (d0 + l,IB):=⟨t4,rfl,WB⟩
        have candW:IB ∈ ss/\Bl ws IB y (d0 + l):=⟨nearH.1.1,nearH.1.2.snoc ed⟩
        have lR':=Q9.lenR;have fin:∀ (x:V) (pn:Int × Str),J8 QA x pn->D4 pn (d0 + l,IB)->(∀ old,R' y old->D4 pn old)->(pn.2 ∈ ss/\Bl ws pn.2 y pn.1) ->
          Pv (i + 1) [some (.ref q),some (.ref st),some (.ref B),some (.ref RA),some (.ref SA),some (.int d0),some (.str IB),some (.str here),some (.str y),some (.ref t4)] (upd QA RA (.dK (BM (sK HR) (Sum.inr y:Bj) x))):=by
         intro x pn hx1 hle hold hW;obtain ⟨nv2,p1,p2,p3⟩:=Nn HR y x;rw [p1,hPv];have N12:=Q9.setR aR (Q9.pR.put p1 hx1) (fun z hz=>by
          rcases (p3 z).mp hz with hz | rfl
          ·exact Q9.subR z hz
          ·exact hyp)
         refine ⟨nv2,_,_,_,rfl,N12,?_,fun z p hz=>?_,fun s hs=>?_,fun x' qq z l' M9 he=>?_,fun z p hz qq hq=>?_⟩
         ·rw [Ae (fun z=>aR.1 (by rw [<-z]; exact dm))]; exact WG
         ·rcases hz with ⟨rfl,rfl⟩ | ⟨_,hz⟩
          ·exact hW
          ·exact rch z p hz
         ·rcases sta s hs with h | ⟨qq,h,le⟩
          ·exact .inl h
          ·by_cases e:s=y
           ·subst e;exact .inr ⟨pn,.inl ⟨rfl,rfl⟩,(hold qq h).trans le⟩
           ·exact .inr ⟨qq,.inr ⟨e,h⟩,le⟩
         ·rcases rel x' qq z l' M9 he with h | ⟨q',h,le⟩ | ⟨h1,h2⟩
          ·exact .inl h
          ·by_cases e:z=y
           ·subst e;exact .inr (.inl ⟨pn,.inl ⟨rfl,rfl⟩,(hold q' h).trans le⟩)
           ·exact .inr (.inl ⟨q',.inr ⟨e,h⟩,le⟩)
          ·by_cases e:z=y
           ·subst e;subst h1;have e2:=uniq _ _ _ _ he ed;subst e2;have e3:=Q9.pS.fn M9 hSh;subst e3;exact .inr (.inl ⟨pn,.inl ⟨rfl,rfl⟩,hle⟩)
           ·exact .inr (.inr ⟨h1,step h2 e⟩)
         ·rcases hz with ⟨rfl,rfl⟩ | ⟨_,hz⟩
          ·exact nSy qq hq
          ·exact T6 z p hz qq hq
        have put:∀ {x:V},FD QA RA (.str y) x (upd QA RA (.dK (BM (sK HR) (Sum.inr y:Bj) x))):=fun {x}=>FD.k (k:=Sum.inr y) Q9.dR (by rw [CK]; lia)
        obtain ⟨w1,pq,ew,hw1,hold,hWq⟩:∃ w1 pq,(B9 (sK HR) (Sum.inr y:Bj)).getD (.ref t4)=w1/\J8 QA w1 pq/\(∀ old,R' y old->D4 pq old)/\(pq.2 ∈ ss/\Bl ws pq.2 y pq.1):=by
         cases hv:B9 (sK HR) (Sum.inr y:Bj) with
         | none=>
          refine ⟨_,_,rfl,cand,fun old h=>?_,candW⟩;have h1:y ∈ HR.map (·.1):=Q9.inR.mpr ⟨old,h⟩;have h2:(B9 (sK HR) (Sum.inr y:Bj)).isSome=true:=by rw [Hq,decide_eq_true h1]
          rw [hv] at h2;cases h2
         | some w1=>
          obtain ⟨pq,h1,h2⟩:=Q9.pR.2.1 y w1 (Kl hv);exact ⟨w1,pq,rfl,h1,fun old h=>by rw [Q9.pR.fn h2 h]; exact D4.refl _,rch y pq h2⟩
        refine ⟨_,rfl,_,rfl,RA,rfl,.inl ⟨_,.inl Q9.dR⟩,_,rfl,_,rfl,_,Cn.k (k:=Sum.inr y) Q9.dR,_,_,(d0 + l,IB),pq,rfl,cand,(by rw [ew]; exact hw1),fun le=>⟨_,rfl,_,rfl,RA,_,rfl,put,?_⟩,fun le=>⟨_,rfl,_,rfl,RA,_,rfl,put,?_⟩⟩
        ·rw [ew];exact fin w1 pq hw1 le hold hWq
        ·exact fin (.ref t4) _ cand (D4.refl _) (fun old h=>le.trans (hold old h)) candW
      ·rw [hPv] at hP;obtain ⟨HR,R',v8,v9,rfl,Sv,hf,rch,sta,rel,T6⟩:=hP;show NN _ _
       rw [hNN];refine ⟨_,?_,HR,PU,S',R',_,_,_,_,_,rfl,rfl,Sv,⟨nearS,rch,fun x qq y l hx he=>?_,sta⟩,T6⟩
       ·have:=Sv.lenS;lia
       ·rcases rel x qq y l hx he with h | h | ⟨rfl,h2⟩
        ·exact .inl h
        ·exact .inr h
        ·exfalso
         obtain ⟨⟨z,v⟩,V1,e⟩:=ZO.mp ((a5 y).mpr he.adj);have e':z=y:=e;subst e';obtain ⟨j,hj,e2⟩:=ab V1;exact h2 j v (by rw [CK]; exact hj) (by rw [Z9 hj,e2])
end
section
variable {P:Program} {w:World} {K:ZD} {mg:Str->Option Value} {base:Heap}
structure NeF (K:ZD) (mg:Str->Option Value) (fN:Addr) (fdN:FuncData) (f:Addr) (fd:FuncData):Prop where
 N:NbF K mg fN fdN
 mi:mg "min"=none
 F:Dm K "nearest" "nearest" Fb f fd
 mg:mg "nearest"=some (.ref f)
 b:HM K fd ["web","starts"] []
theorem O9 {f fN fE:Addr} {fd fdN fdE:FuncData} (EK:NeF K mg fN fdN fE fdE) (F:Dm K "fars" "fars" Ld f fd):A8 P w K mg base Bt 3 f fd ["web","place"] (Rc K):=by
 have GE:A8 P w K mg base Bt 2 fE fdE ["web","starts"] (QY K):=Ny EK.N EK.mi EK.F;refine F.ok O0 (fun vs H Q E h=>?_) (fun cdv A outer s H vs Q E hr h=>?_)
 ·obtain ⟨q,ps,ws,r,x,rfl,_⟩:=h;rfl
 ·obtain ⟨q,ps,ws,r,x,rfl,ok,pos,uniq,hx,k⟩:=h;have hu:=CN hr;have nd:=O0.nd;have big:1000 < sizeLine:=by decide
  have l30:=ok.l30;refine ⟨_,Af (Ao (i:=2) nd rfl (Or.inr rfl) (Am GE hr (by rfl) EK.mg EK.F.kp EK.b .nil Ax (Aa (pv 0) (Aa (Bw (Aa (pv 1) Ac)) Ac))))
   (Al (A4 (IT (N:=["name","told"]) (σ0:=fun σ=>[none,some 2].map fun j=>j.bind fun j=>(σ[j]?).join) rfl
      (AD.caught (by rfl) (by decide +kernel) rfl (by decide +kernel) (by intro y hy; simp only [ZF,ZI,or_false] at hy; rcases hy with rfl <;> rfl)
       (by intro y hy e; simp only [ZF,ZI,or_false] at hy; rcases hy with rfl | rfl | rfl <;> first | exact ⟨_,rfl⟩ | cases e))
      (fun σ _=>Ba.of [none,some 2] rfl (by
       intro i j x h1 h2;match i,h1,h2 with
       | 0,_,h2=>cases h2
       | 1,h1,h2=>cases h1; cases h2; exact ⟨rfl,.inl rfl,.inl rfl⟩
       | n + 2,h1,_=>cases h1)) (AR K rfl (Az (A7 K rfl) (pv 0) Ag (fun _ _=>rfl)))
      (fun s2 H C fp=>⟨Ai (i:=0) (show (["name","told"]:List Str).Nodup by decide +kernel) rfl (Or.inl rfl),AQ,pv 0,Az (A7 K rfl) (AW hu (pv 1) (pv 0) (fun _ _=>rfl)) Ag (fun _ _=>rfl)⟩)))),?_⟩
  refine ⟨_,rfl,_,rfl,(by show 1<=sizeLine; lia),fun st hst=>?_⟩;have s0:=Ad (o:=.lst [.str x]) hst;refine ⟨q,st,ps,[x],ws,r,rfl,ok.same s0,pos,uniq,.inl Ab,by simp,aM.mpr ⟨by simp,.nil⟩,by simpa using hx,fun H1 B nv s1 hB Wc nn nk nr=>?_⟩;have Wr:=s0.trans s1;obtain ⟨tp,tw,us,hq,htp,htw,hD⟩:=ok.web.ex;refine ⟨_,rfl,q,_,0,.ref tp,rfl,rfl,Ay.of (Wr _ _ hq),CA (j:=0) rfl,tp,rfl,⟨_,Ay.of (Wr _ _ htp)⟩,fun C hC=>?_⟩;exists fun i m Aw H2=>m=ps.length - i/\i<=ps.length/\(∃ v,Aw=[v,some (.ref B)])/\∃ nc:List (Str × V),H2=upd H1 C (.dK (sK nc))/\nc.map (·.1)=ps.take i/\∀ y v,(y,v) ∈ nc->∃ n,v=.int n/\KI ws x y n,⟨_,rfl,ao _,⟨_,rfl⟩,[],rfl,rfl,fun y v hy=>absurd hy ZI⟩
  rintro i m Aw H2 ⟨rfl,hi,⟨v,rfl⟩,nc,rfl,ncK,ncV⟩;have sC:=Ad (o:=.dK (sK nc)) hC;have NJ:=sC _ _ (Wr _ _ htp);by_cases BD:i < ps.length
  ·refine .inr ⟨⟨_,V.str ps[i],Ay.of NJ,by rw [ZL,Z9 BD]; rfl⟩,?_⟩;rintro z H6 ⟨rfl,hz⟩;have MW:=hz _ (Ay.of NJ);rw [ZL,Z9 BD] at MW;cases MW
   obtain ⟨⟨y,v2⟩,hm,e⟩:=ZO.mp ((nk ps[i]).mpr (aN BD));have e':y=ps[i]:=e;subst e';obtain ⟨p,⟨t,e2,ht⟩,hnr⟩:=nr ps[i] v2 hm;subst e2;have Zu:=sC _ _ Wc;have DM:=sC _ _ ht;have nn':ps[i] ∉ nc.map (·.1):=by
    rw [ncK];intro V1;obtain ⟨j,hj,e⟩:=ab V1;rw [ah] at hj;rw [cn] at e;have:=Hy ok.nd (Z9 (show j < ps.length by lia)) (by rw [Z9 BD,e]);lia
   have ncl:nc.length=i:=by
    have:=congrArg b9 ncK;rw [ZA,ah] at this;lia
   refine ⟨_,rfl,_,rfl,_,rfl,B,.ref t,rfl,.inl ⟨_,Sum.inr ps[i],.inl Zu,rfl,(DE nn hm).symm⟩,t,_,0,.int p.1,rfl,rfl,Ay.of DM,CA (j:=0) rfl,_,Sum.inr ps[i],rfl,Ab,by rw [CK]; lia,_,by lia,rfl,BD,⟨_,rfl⟩,nc ++ [(ps[i],.int p.1)],by rw [FK,DI nn'],?_,fun y v hy=>?_⟩
   ·rw [ZG,ncK,ZR,Z9 BD]; rfl
   ·rcases af.mp hy with hy | hy
    ·exact ncV y v hy
    ·simp only [aa,Prod.mk.injEq] at hy;obtain ⟨rfl,rfl⟩:=hy;exact ⟨p.1,rfl,hnr.dst.2⟩
  ·have e0:i=ps.length:=by lia
   subst e0;rw [ZY] at ncK;exact .inl ⟨⟨_,Ay.of NJ,by rw [ZA]; exact ZJ _⟩,k _ C nc (Wr.trans sC) (Wr.free hC) Ab ncK ncV⟩
end
structure TxtN (K:ZD) (mg:Str->Option Value):Prop where
 len:mg "len"=none
 isin:mg "isinstance"=none
 str:mg "str"=none
 all:mg "all"=none
 most:∃ t,mg "MOST_LETTERS"=some (.int 6 t)
section
variable {P:Program} {w:World} {K:ZD} {mg:Str->Option Value} {base:Heap}
theorem Ii {f:Addr} {fd:FuncData} (T:TxtN K mg) (F:Dm K "is_name" "is_name" Di f fd):A8 P w K mg base Bt 1 f fd ["thing"] (KS K):=by
 refine F.ok Nm (fun vs H Q E h=>?_) (fun cdv A outer s H vs Q E hr h=>?_)
 ·obtain ⟨x,rfl,_⟩:=h;rfl
 ·obtain ⟨x,rfl,h⟩:=h;obtain ⟨tk,hmost⟩:=T.most;refine ⟨_,Af (Cr (Hr (DJ (EI (Ak BF (by rfl) T.isin PyProof.Rows.boot_isinstance (Aa (pv 0) (Aa (Dd (v:=.ty "str") (by rfl) T.str PyProof.Rows.boot_str rfl) Ac)))))
    (EH (DJ (IL Ku Ku Ag (Ak Gm (by rfl) T.len PySem.boot_len (Aa (pv 0) Ac)) (SQ (v:=.int 6) (by rfl) hmost ⟨_,rfl⟩))))).pt
    (Al (A4 E4)) Bo)
   (Al (A4 (Ak (BO rfl) (by rfl) T.all PyProof.Rows.boot_all (Aa
    (AS (N:=["letter"]) (σ0:=fun _=>[none]) rfl (AD.plain (by decide +kernel) (by decide +kernel) rfl (by decide +kernel)) (fun σ _=>Ba.none _ _ _ ["letter"] σ) (Vb (pv 0))
     (fun s2 H C fp=>⟨Ai (i:=0) (show (["letter"]:List Str).Nodup by decide +kernel) rfl (Or.inl rfl),AQ,R4 Kt Kt IS (pv 0) IS⟩)) Ac)))),?_⟩
  rcases h with ⟨t,rfl,ht,k⟩ | ⟨⟨ty,h1,h2⟩,k⟩
  ·exists _,rfl,_,"str",_,_,rfl,D5.str t,rfl,_,rfl;refine BZ ?_;exists _,rfl,t,rfl,aj ht (by decide),_,_,rfl,rfl,_,rfl;have last:∀ (h1:1<=t.length) (h2:t.length<=6),QQ (iStr (S6 0)) (MC 0) JI (Ni (fun x y H Q=>∃ i j,x=.str i/\y=.str j/\Q (.bl (!(decide (j.cps.toList < i.cps.toList)))) H) (fun x y H Q=>∃ i j,x=.str i/\y=.str j/\Q (.bl (!(decide (j.cps.toList < i.cps.toList)))) H) (tC (.str "a")) (S6 0) (tC (.str "z"))) (fun _=>[none]) [some (V.str t)] H
     (fun x H1=>∃ (p:Addr) (bs:List Bool),[x]=[V.ref p]/\AZ K H1 p (bs.map V.bl)/\Q (.bl (bs.all id)) H1):=by
    intro h1 h2;refine ⟨_,rfl,t,rfl,fun D hD=>⟨fun i m Aw H'=>m=t.cps.size - i/\i<=t.cps.size/\(∃ v,Aw=[v])/\H'=upd H D (.lst ((t.cps.toList.take i).map fun c=>V.bl (GJ c))),⟨_,rfl,ao _,⟨_,rfl⟩,rfl⟩,?_⟩⟩;rintro i m Aw H' ⟨rfl,hi,⟨v,rfl⟩,rfl⟩;by_cases BD:i < t.cps.size
    ·refine .inr ⟨BD,?_⟩;rintro x H2 ⟨rfl,c,hc,rfl⟩;have K0:t.cps.toList[i]? = some c:=by simpa using hc
     have step:∀ b,b=GJ c->∃ acc,(upd H D (.lst ((t.cps.toList.take i).map fun c=>V.bl (GJ c)))) D=some (.lst acc)/\acc.length < sizeLine/\∃ m',m' < t.cps.size - i/\(m'=t.cps.size - (i + 1)/\i + 1<=t.cps.size/\(∃ v,[some (V.str ⟨#[c]⟩)]=[v]) /\
       upd (upd H D (.lst ((t.cps.toList.take i).map fun c=>V.bl (GJ c)))) D (.lst (acc ++ [V.bl b]))=upd H D (.lst ((t.cps.toList.take (i + 1)).map fun c=>V.bl (GJ c)))):=by
      rintro b rfl;exists _,Ab,?_,_,?_,rfl,BD,⟨_,rfl⟩
      ·rw [ZA,ah];have:t.length=t.cps.size:=rfl;have:1000 < sizeLine:=by decide
       lia
      ·lia
      ·rw [FK,JH _ _ _ _ K0]
     exists _,rfl,_,_,rfl,rfl,_,rfl;rw [leA];refine CL (fun ha=>?_) (fun ha=>?_)
     ·exists _,_,rfl,rfl;rw [leZ];exact step _ (by unfold GJ; rw [ha]; rfl)
     ·exact step _ (by unfold GJ; rw [Bool.not_eq_true] at ha; rw [ha]; rfl)
    ·have e:i=t.cps.size:=by lia
     subst e;refine .inl ⟨ZJ _,D,t.cps.toList.map GJ,rfl,.inl (.inl ?_),?_⟩
     ·rw [Ab,aK (by simp),aL];rfl
     ·have e2:(t.cps.toList.map GJ).all id=Bm t:=by
       unfold Bm;rw [bu,decide_eq_true h1,decide_eq_true h2];rfl
      rw [e2];exact k _ (Ad hD)
   refine CL (fun h1=>?_) (fun h1=>?_)
   ·exists _,_,rfl,rfl,_,rfl;rw [decide_eq_true_eq] at h1;refine CL (fun h2=>?_) (fun h2=>?_)
    ·have e:Bm t=false:=by
      unfold Bm;have:¬ t.length<=6:=by
       intro z;rw [decide_eq_true (show ((t.length:Nat):Int)<=6 by lia)] at h2;cases h2
      rw [decide_eq_false this,Bool.and_false,cJ]
     rw [<-e];exact k _ (Aq.refl _)
    ·refine last (by lia) ?_;by_cases z:t.length<=6
     ·exact z
     ·rw [decide_eq_false (show ¬ ((t.length:Nat):Int)<=6 by lia)] at h2;exact absurd rfl h2
   ·exists _,rfl;refine De ?_;have e:Bm t=false:=by
     unfold Bm;rw [decide_eq_true_eq] at h1;rw [decide_eq_false (show ¬ 1<=t.length by lia),cJ,cJ]
    show Q (.bl false) H
    rw [<-e];exact k _ (Aq.refl _)
  ·exists _,rfl,_,"str",_,_,rfl,h1,h2,_,rfl;exact k
end
section
variable {P:Program} {w:World} {K:ZD} {mg:Str->Option Value} {base:Heap}
theorem Lo (h_dict:mg "dict"=none) (h_max:mg "max"=none) (h_sum:mg "sum"=none) {f:Addr} {fd:FuncData} (F:Dm K "gets_from" "gets_from" DC f fd):A8 P w K mg base Bt 1 f fd ["case","prices","away"] IC:=by
 refine F.ok FU (fun vs H Q E h=>?_) (fun cdv A outer s H vs Q E hr h=>?_)
 ·obtain ⟨c,m,t,n,xs,ws,Ap,Ar,qs,x,d,v,y,rfl,_⟩:=h;rfl
 ·obtain ⟨c,m,t,n,xs,ws,Ap,Ar,qs,x,d,v,y,rfl,cp,fa,k⟩:=h;have nd:=FU.nd;have hu:=CN hr;have big:100000 < sizeLine:=by decide
  refine ⟨_,(Af (Ao (i:=3) nd rfl (Or.inr rfl) (AA (Bs rfl) (by rfl) h_dict PyProof.Rows.boot_dict (Aa (Az F6 (pv 0) Ag (fun _ _=>rfl)) Ac)))
  (Al (A4 (Ak (B6 rfl) (by rfl) h_sum PyProof.Rows.boot_sum (Aa (AS (N:=["place","price","away","manys"]) (σ0:=fun σ=>[none,none,some 2,some 3].map fun j=>j.bind fun j=>(σ[j]?).join) rfl (AD.caught (by rfl) (by decide +kernel) rfl (by decide +kernel) (by intro y hy; simp only [ZF,ZI,or_false] at hy; rcases hy with rfl | rfl <;> rfl)
   (by intro y hy e; simp only [ZF,ZI,or_false] at hy; rcases hy with rfl | rfl | rfl | rfl | rfl | rfl <;> first | exact ⟨_,rfl⟩ | cases e)) (fun σ _=>Ba.of [none,none,some 2,some 3] rfl (by
   intro i j x h1 h2;match i,h1,h2 with
   | 0,_,h2=>cases h2
   | 1,_,h2=>cases h2
   | 2,h1,h2=>cases h1; cases h2; exact ⟨rfl,.inl rfl,.inl rfl⟩
   | 3,h1,h2=>cases h1; cases h2; exact ⟨rfl,.inl rfl,.inl rfl⟩
   | n + 4,h1,_=>cases h1)) (G3 (pv 1))
   (fun s2 H C fp=>⟨(AO K rfl (n:=2) rfl (Aj (Ai (i:=0) (show (["place","price","away","manys"]:List Str).Nodup by decide +kernel) rfl (Or.inl rfl)) (Aj (Ai (i:=1) (show (["place","price","away","manys"]:List Str).Nodup by decide +kernel) rfl (Or.inl rfl)) AN))),AQ,(Ak (Hc rfl) (by rfl) h_max PyProof.Rows.boot_max (Aa (As G5 (pv 1) (As BG (AW hu (pv 3) (pv 0) (fun _ _=>rfl)) (AW hu (pv 2) (pv 0) (fun _ _=>rfl)))) (Aa Ag Ac)))⟩)) Ac))))),?_⟩
  obtain ⟨us,ht,du⟩:=cp.ex;obtain ⟨t1,t2,D3,EX,hc,Eb,Et,DM,hd2⟩:=cp.cw.ex;have ul:=A3 du;have MT:=A3 hd2;have l2:=cp.cw.l2;have ql:=cp.ok.len;have xnd:=cp.cw.map.at'.nd;refine ⟨_,rfl,c,_,_,_,rfl,rfl,Ay.of hc,rfl,t2,EX,Br Ar,rfl,DM,by unfold Br; rw [ZA]; exact MT,Fg hd2,by rw [Ck]; exact cp.cw.ok2.nd,by unfold Br; rw [ZA]; lia,fun B hB=>?_⟩;have s1:=Ad (o:=.dK (sK (Br Ar))) hB;have MA:(upd H B (.dK (sK (Br Ar)))) B=some (.dK (sK (Br Ar))):=Ab;generalize upd H B (.dK (sK (Br Ar)))=H1 at s1 MA;exists _,rfl,t,rfl,⟨_,Ay.of (s1 _ _ ht)⟩
  refine AX Be (xs:=us) (fun D i Aw H' acc=>∃ v0 v1:Option V,Aw=[v0,v1,some v,some (.ref B)]/\Aq H1 H'/\H' D=some (.lst acc)/\acc=(((Ar.zip qs).take i).map fun z=>DN ws y z.1 z.2.2).map V.int/\acc.length=i)
   (by lia) (fun D hD=>⟨_,_,rfl,Ad hD,Ab,rfl,rfl⟩) (fun D i Aw H' acc hD ⟨v0,v1,_,sa,AK,_,al⟩=>⟨Ay.of (sa _ _ (s1 _ _ ht)),AK,al⟩) ?_ ?_
  ·rintro D i Aw H' acc x' Bk hD ex ⟨v0,v1,rfl,sa,AK,ea,al⟩ hBk;obtain ⟨q,tt,eq,rfl,htt⟩:=Bb du ex;obtain ⟨r,er,rq⟩:=cp.ok.at eq;have rm:=ZE er;have hq1:q.1 ∈ Ar.map (·.1):=ZO.mpr ⟨r,rm,rq⟩;have ec:BI Ar q.1=r.2:=by rw [<-rq]; exact Cg cp.cw.ok2.nd rm
   have r4:=cp.few r rm;have r1:=(cp.cw.ok2.lo r rm).1;obtain ⟨B2,rfl,g2⟩:=((fa.same s1).same sa).get xnd (cp.names q (ZE eq)).1;have g1:=EG (sa _ _ MA) cp.cw.ok2.nd hq1;rw [ec] at g1;exists tt,_,rfl,Ay.of (sa _ _ (s1 _ _ htt)),rfl,_,_,rfl,_,_,rfl,rfl;exists _,rfl,_,rfl,_,rfl,B,_,rfl,g1,_,rfl,_,rfl,B2,_,rfl,g2,_,_,rfl,rfl,.inl ⟨by lia,by lia⟩,_,_,rfl,rfl,_,_,rfl;refine hBk _ _ _ AK ⟨_,_,rfl,fun b o e=>by rw [Ae (Ah e hD)]; exact sa _ _ e,Ab,?_,by rw [ZH,al]; rfl⟩;rw [ea,K4 er eq,ZG,Vp];unfold DN;rw [rq];rfl
  ·rintro D Aw H' acc hD ⟨v0,v1,rfl,sa,AK,ea,al⟩;exists D,_,rfl,AZ.of (by rw [AK,ea]);have e:us.length=(Ar.zip qs).length:=by rw [Ob ql]; lia
   rw [e,ZY];exact k _ (s1.trans sa)
end
section
variable {P:Program} {w:World} {K:ZD} {mg:Str->Option Value} {base:Heap}
theorem FZ {fF:Addr} {fdF:FuncData} (XF:Fn K mg "fars" Ld ["web","place"] fF fdF) (GF:A8 P w K mg base Bt 3 fF fdF ["web","place"] (Rc K)) {f:Addr} {fd:FuncData} (F:Dm K "site_fars" "site_fars" CC f fd):A8 P w K mg base Bt 4 f fd ["case"] F2:=by
 refine F.ok FO (fun vs H Q E h=>?_) (fun cdv A outer s H vs Q E hr h=>?_)
 ·obtain ⟨c,m,n,xs,ws,Ap,Ar,x,d,rfl,_⟩:=h;rfl
 ·obtain ⟨c,m,n,xs,ws,Ap,Ar,x,d,rfl,cw,k⟩:=h;have nd:=FO.nd;have big:100000 < sizeLine:=by decide
  refine ⟨_,(Al (A4 (IT (N:=["place","price","case"]) (σ0:=fun σ=>[none,none,some 0].map fun j=>j.bind fun j=>(σ[j]?).join) rfl (AD.caught (by rfl) (by decide +kernel) rfl (by decide +kernel) (by intro y hy; simp only [ZF,ZI,or_false] at hy; rcases hy with rfl <;> rfl)
   (by intro y hy e; simp only [ZF,ZI,or_false] at hy; rcases hy with rfl | rfl | rfl | rfl | rfl <;> first | exact ⟨_,rfl⟩ | cases e)) (fun σ _=>Ba.of [none,none,some 0] rfl (by
   intro i j x h1 h2;match i,h1,h2 with
   | 0,_,h2=>cases h2
   | 1,_,h2=>cases h2
   | 2,h1,h2=>cases h1; cases h2; exact ⟨rfl,.inl rfl,.inl rfl⟩
   | n + 3,h1,_=>cases h1)) (AR K rfl (Az (A7 K rfl) (pv 0) Ag (fun _ _=>rfl)))
   (fun s2 H C fp=>⟨(AO K rfl (n:=2) rfl (Aj (Ai (i:=0) (show (["place","price","case"]:List Str).Nodup by decide +kernel) rfl (Or.inl rfl)) (Aj (Ai (i:=1) (show (["place","price","case"]:List Str).Nodup by decide +kernel) rfl (Or.inl rfl)) AN))),AQ,(pv 0),(Am GF (hr.mono (by decide)) (by rfl) XF.mg XF.F.kp XF.b .nil Ax (Aa (Az (A7 K rfl) (pv 2) Ag (fun _ _=>rfl)) (Aa (pv 0) Ac)))⟩)))),?_⟩
  obtain ⟨t1,t2,D3,EX,hc,Eb,Et,DM,hd2⟩:=cw.ex;obtain ⟨r,okw,pos,uni⟩:=cw.map.web cw.n1 cw.n30;have ul:=A3 Et;have l1:=cw.l1;exists _,rfl,c,_,_,_,rfl,rfl,Ay.of hc,rfl,t1,rfl,⟨_,Ay.of Eb⟩
  refine Py Be (xs:=D3) (Ap.map (·.1)) (by rw [ZA,ul]) cw.ok1.nd (fun D i σ H' nv=>∃ (v0 v1:Option V),σ=[v0,v1,some (.ref c)]/\Aq H H'/\H' D=some (.dK (sK nv))/\nv.map (·.1)=(Ap.map (·.1)).take i/\∀ s v,(s,v) ∈ nv->DQ H' v xs ws s)
   (by lia) (fun D hD=>⟨_,_,rfl,Ad hD,Ab,rfl,fun s v hm=>nomatch hm⟩) (fun D i σ H' nv hD ⟨v0,v1,_,sa,AK,nk,_⟩=>⟨Ay.of (sa _ _ Eb),AK,nk⟩) ?_ ?_
  ·rintro D i σ H' nv x' kk B hD ex ek ⟨v0,v1,rfl,sa,AK,nk,nf⟩ hB;obtain ⟨u,t,eu,rfl,ht⟩:=Bb Et ex;have e:kk=u.1:=by
    rw [ZL,eu] at ek;exact (ZZ.inj ek).symm
   subst e;exists t,_,rfl,Ay.of (sa _ _ ht),rfl,_,_,rfl,_,_,rfl,rfl;refine ⟨_,rfl,_,rfl,c,_,_,_,rfl,rfl,Ay.of (sa _ _ hc),rfl,_,rfl,m,xs,ws,r,u.1,rfl,okw.same sa,pos,uni,cw.ok1.sub u (ZE eu),fun H1 B1 nb s1 fB Wc nbK nbV=>?_⟩;have Yj:=s1 _ _ AK;refine hB _ _ _ Yj ⟨_,_,rfl,fun b o' z=>by rw [Ae (Ah z hD)]; exact s1 _ _ (sa _ _ z),Ab,?_,fun s v hm=>?_⟩
   ·rw [ZG,nk,ZR,ek];rfl
   ·have nB:∀ {b:Addr} {kv:List (Bj × V)},b ≠ D->H1 b=some (.dK kv)->(upd H1 D (.dK (sK (nv ++ [(u.1,.ref B1)])))) b=some (.dK kv):=fun nb z=>by rw [Ae nb]; exact z
    rcases af.mp hm with hm | hm
    ·obtain ⟨B2,Lr,rfl,z1,z2,z3⟩:=nf s v hm;by_cases e:B2=D
     ·subst e;rw [AK] at z1;have e:=HO.dK.inj (ZZ.inj z1);have hm':((Sum.inr s:Bj),V.ref B2) ∈ sK Lr:=by rw [<-e]; exact ZO.mpr ⟨_,hm,rfl⟩
      obtain ⟨⟨y,u'⟩,h1,h2⟩:=ZO.mp hm';cases h2
      obtain ⟨n',e',_⟩:=z3 _ _ h1;cases e'
     ·exact ⟨B2,Lr,rfl,nB e (s1 _ _ z1),z2,z3⟩
    ·simp only [aa,Prod.mk.injEq] at hm;obtain ⟨rfl,rfl⟩:=hm;exact ⟨B1,nb,rfl,nB (fun z=>by rw [z,AK] at fB; cases fB) Wc,nbK,nbV⟩
  ·rintro D σ H' nv hD ⟨v0,v1,rfl,sa,AK,nk,nf⟩;rw [ul,show Ap.length=(Ap.map (·.1)).length by rw [ZA],ZY] at nk;exact k H' D nv sa hD AK nk nf
end
section
variable {P:Program} {w:World} {K:ZD} {mg:Str->Option Value} {base:Heap}
theorem Mq (h_all:mg "all"=none) {fG:Addr} {fdG:FuncData} (XG:Fn K mg "gets_from" DC ["case","prices","away"] fG fdG) (GG:A8 P w K mg base Bt 1 fG fdG ["case","prices","away"] IC) {f:Addr} {fd:FuncData} (F:Dm K "stand_by" "stand_by" Eh f fd):A8 P w K mg base Bt 2 f fd ["case","aways","prices","levy"] Kf:=by
 refine F.ok Hg (fun vs H Q E h=>?_) (fun cdv A outer s H vs Q E hr h=>?_)
 ·obtain ⟨c,m,t,D0,n,xs,ws,Ap,Ar,qs,x,d,lv,rfl,_⟩:=h;rfl
 ·obtain ⟨c,m,t,D0,n,xs,ws,Ap,Ar,qs,x,d,lv,rfl,cp,aw,k⟩:=h;have nd:=Hg.nd;have hu:=CN hr;have big:100000 < sizeLine:=by decide
  refine ⟨_,(Al (A4 (Ak (BO rfl) (by rfl) h_all PyProof.Rows.boot_all (Aa (AS (N:=["place","charge","case","aways","prices","levy"]) (σ0:=fun σ=>[none,none,some 0,some 1,some 2,some 3].map fun j=>j.bind fun j=>(σ[j]?).join) rfl (AD.caught (by rfl) (by decide +kernel) rfl (by decide +kernel) (by intro y hy; simp only [ZF,ZI,or_false] at hy; rcases hy with rfl | rfl | rfl | rfl <;> rfl)
   (by intro y hy e; simp only [ZF,ZI,or_false] at hy; rcases hy with rfl | rfl | rfl | rfl | rfl | rfl | rfl | rfl <;> first | exact ⟨_,rfl⟩ | cases e)) (fun σ _=>Ba.of [none,none,some 0,some 1,some 2,some 3] rfl (by
   intro i j x h1 h2;match i,h1,h2 with
   | 0,_,h2=>cases h2
   | 1,_,h2=>cases h2
   | 2,h1,h2=>cases h1; cases h2; exact ⟨rfl,.inl rfl,.inl rfl⟩
   | 3,h1,h2=>cases h1; cases h2; exact ⟨rfl,.inl rfl,.inl rfl⟩
   | 4,h1,h2=>cases h1; cases h2; exact ⟨rfl,.inl rfl,.inl rfl⟩
   | 5,h1,h2=>cases h1; cases h2; exact ⟨rfl,.inl rfl,.inl rfl⟩
   | n + 6,h1,_=>cases h1)) (AR K rfl (Az (A7 K rfl) (pv 0) Ag (fun _ _=>rfl)))
   (fun s2 H C fp=>⟨(AO K rfl (n:=2) rfl (Aj (Ai (i:=0) (show (["place","charge","case","aways","prices","levy"]:List Str).Nodup by decide +kernel) rfl (Or.inl rfl)) (Aj (Ai (i:=1) (show (["place","charge","case","aways","prices","levy"]:List Str).Nodup by decide +kernel) rfl (Or.inl rfl)) AN))),AQ,(Ct Ku (Am GG (hr.mono (by decide)) (by rfl) XG.mg XG.F.kp XG.b .nil Ax (Aa (pv 2) (Aa (pv 4) (Aa (AW hu (pv 3) (pv 0) (fun _ _=>rfl)) Ac)))) (As Bg (pv 1) (pv 5)) (Bx _))⟩)) Ac)))),?_⟩
  obtain ⟨us,ht,du⟩:=cp.ex;obtain ⟨t1,t2,D3,EX,hc,Eb,Et,DM,hd2⟩:=cp.cw.ex;have ul:=A3 du;have OX:=A3 Et;have MT:=A3 hd2;have l1:=cp.cw.l1;have l2:=cp.cw.l2;have ql:=cp.ok.len;exists _,rfl,c,_,_,_,rfl,rfl,Ay.of hc,rfl,t1,rfl,⟨_,Ay.of Eb⟩
  refine AX Be (xs:=D3) (fun D i Aw H' acc=>∃ v0 v1:Option V,Aw=[v0,v1,some (.ref c),some (.ref D0),some (.ref t),some (.int lv)]/\Aq H H'/\H' D=some (.lst acc)/\acc=((Ap.take i).map fun r=>decide (B8 ws r.1 Ar qs<=r.2 + lv)).map V.bl/\acc.length=i)
   (by lia) (fun D hD=>⟨_,_,rfl,Ad hD,Ab,rfl,rfl⟩) (fun D i Aw H' acc hD ⟨v0,v1,_,sa,AK,_,al⟩=>⟨Ay.of (sa _ _ Eb),AK,al⟩) ?_ ?_
  ·rintro D i Aw H' acc x' B hD LF ⟨v0,v1,rfl,sa,AK,ea,al⟩ hB;obtain ⟨r,tt,er,rfl,htt⟩:=Bb Et LF;obtain ⟨v,dg,fa⟩:=(aw.same sa).get cp.cw.ok1.nd (ZE er);exists tt,_,rfl,Ay.of (sa _ _ htt),rfl,_,_,rfl,_,_,rfl,rfl;refine ⟨_,rfl,_,rfl,_,rfl,_,rfl,D0,_,rfl,dg,c,m,t,n,xs,ws,Ap,Ar,qs,x,d,v,r.1,rfl,cp.same sa,fa,fun H5 s5=>?_⟩;exists _,rfl,_,rfl,_,_,rfl,rfl,_,_,rfl,rfl;refine hB _ _ _ (s5 _ _ AK) ⟨_,_,rfl,fun b o e=>by rw [Ae (Ah e hD)]; exact s5 _ _ (sa _ _ e),Ab,?_,by rw [ZH,al]; rfl⟩;rw [ea,ZR,er,ZG,ZG];rfl
  ·rintro D Aw H' acc hD ⟨v0,v1,rfl,sa,AK,ea,al⟩;exists D,_,rfl,AZ.of (by rw [AK,ea]);have e:(((Ap.take D3.length).map fun r=>decide (B8 ws r.1 Ar qs<=r.2 + lv)).all id)=BV ws Ap Ar qs lv:=by
    rw [OX,ZY,bu];rfl
   rw [e];exact k _ sa
theorem Vm (h_sum:mg "sum"=none) {f:Addr} {fd:FuncData} (F:Dm K "low" "low" O1 f fd):A8 P w K mg base Bt 1 f fd ["case","prices","levy"] KU:=by
 refine F.ok Rm (fun vs H Q E h=>?_) (fun cdv A outer s H vs Q E hr h=>?_)
 ·obtain ⟨c,m,t,n,xs,ws,Ap,Ar,qs,x,d,lv,rfl,_⟩:=h;rfl
 ·obtain ⟨c,m,t,n,xs,ws,Ap,Ar,qs,x,d,lv,rfl,cp,ok,k⟩:=h;have nd:=Rm.nd;have big:100000 < sizeLine:=by decide
  refine ⟨_,(Af (Ao (i:=3) nd rfl (Or.inl rfl) (Az (A7 K rfl) (pv 0) Ag (fun _ _=>rfl)))
  (Af (Ao (i:=4) nd rfl (Or.inl rfl) (Ak (B6 rfl) (by rfl) h_sum PyProof.Rows.boot_sum (Aa (AS (N:=["place","price"]) (σ0:=fun _=>[none,none]) rfl (AD.plain (by decide +kernel) (by decide +kernel) rfl (by decide +kernel)) (fun σ _=>Ba.none _ _ _ ["place","price"] σ) (AR K rfl (pv 1))
   (fun s2 H C fp=>⟨(AO K rfl (n:=2) rfl (Aj (Ai (i:=0) (show (["place","price"]:List Str).Nodup by decide +kernel) rfl (Or.inl rfl)) (Aj (Ai (i:=1) (show (["place","price"]:List Str).Nodup by decide +kernel) rfl (Or.inl rfl)) AN))),AQ,(pv 1)⟩)) Ac)))
  (Al (A4 (Mk (F3 (G4 (pv 3))) (pv 4) (As G5 (pv 4) (As BG (pv 3) (pv 2)))))))),?_⟩
  obtain ⟨us,ht,du⟩:=cp.ex;obtain ⟨t1,t2,D3,EX,hc,Eb,Et,DM,hd2⟩:=cp.cw.ex;have ul:=A3 du;have OX:=A3 Et;have MT:=A3 hd2;have l1:=cp.cw.l1;have l2:=cp.cw.l2;have ql:=cp.ok.len;exists _,rfl,c,_,_,_,rfl,rfl,Ay.of hc,rfl;exists _,rfl,t,rfl,⟨_,Ay.of ht⟩
  refine AX Be (xs:=us) (fun D i Aw H' acc=>∃ v0 v1:Option V,Aw=[v0,v1]/\Aq H H'/\H' D=some (.lst acc)/\acc=((qs.take i).map (·.2)).map V.int/\acc.length=i)
   (by lia) (fun D hD=>⟨_,_,rfl,Ad hD,Ab,rfl,rfl⟩) (fun D i Aw H' acc hD ⟨v0,v1,_,sa,AK,_,al⟩=>⟨Ay.of (sa _ _ ht),AK,al⟩) ?_ ?_
  ·rintro D i Aw H' acc x' B hD LF ⟨v0,v1,rfl,sa,AK,ea,al⟩ hB;obtain ⟨q,tt,eq,rfl,htt⟩:=Bb du LF;exists tt,_,rfl,Ay.of (sa _ _ htt),rfl,_,_,rfl,_,_,rfl,rfl;refine ⟨_,rfl,hB _ _ _ AK ⟨_,_,rfl,fun b o e=>by rw [Ae (Ah e hD)]; exact sa _ _ e,Ab,?_,by rw [ZH,al]; rfl⟩⟩;rw [ea,ZR,eq,ZG,ZG];rfl
  rintro D Aw H' acc hD ⟨v0,v1,rfl,sa,AK,ea,al⟩;rw [ul,ZY] at ea;exists D,_,rfl,AZ.of (by rw [AK,ea]);have lk:=k H' sa;unfold Qc IA at lk;rcases cp.cw.lim with ⟨rfl,_⟩ | ⟨j,rfl,_,j1,j2⟩
  ·exists _,rfl,_,rfl;refine De ?_;exact ⟨_,rfl,lk⟩
  ·exists _,rfl,_,rfl;refine BZ ?_;exact ⟨_,rfl,_,rfl,_,rfl,_,_,rfl,rfl,.inr ⟨by have:=ok.1; lia,by have:=ok.2.1; lia⟩,_,_,rfl,rfl,lk⟩
theorem Ms (h_dict:mg "dict"=none) (h_max:mg "max"=none) {f:Addr} {fd:FuncData} (F:Dm K "_law_gets" "_law_gets" Ei f fd):A8 P w K mg base Bt 1 f fd ["_law_case_here","_law_away","_law_prices_here","_law_site"] Ou:=by
 refine F.ok Hj (fun vs H Q E h=>?_) (fun cdv A outer s H vs Q E hr h=>?_)
 ·obtain ⟨c,m,t,A0,n,xs,ws,Ap,Ar,qs,x,d,y,rfl,_⟩:=h;rfl
 ·obtain ⟨c,m,t,A0,n,xs,ws,Ap,Ar,qs,x,d,y,rfl,cp,kn,hy,k⟩:=h;have nd:=Hj.nd;have hu:=CN hr;have big:100000 < sizeLine:=by decide
  refine ⟨_,(Af (Ao (i:=4) nd rfl (Or.inl rfl) Ag)
  (Af (BC PassesOwn.never rfl (AR K rfl (Az (A7 K rfl) (pv 0) Ag (fun _ _=>rfl))) (AO K rfl rfl (Aj (Ai (i:=5) nd rfl (Or.inl rfl)) (Aj (Ai (i:=6) nd rfl (Or.inl rfl)) AN)))
  (Al (Ao (i:=4) nd rfl (Or.inl rfl) (As Bg (pv 4) (Ak (Hc rfl) (by rfl) h_max PyProof.Rows.boot_max (Aa Ag (Aa (As G5 (AW hu (AA (Bs rfl) (by rfl) h_dict PyProof.Rows.boot_dict (Aa (pv 2) Ac)) (pv 5) (fun _ _=>rfl)) (As BG (pv 6) (AW hu (pv 1) (AH (Aa (pv 5) (Aa (pv 3) Ac))) (fun _ _=>rfl)))) Ac)))))))
  (Al (A4 (pv 4))))),?_⟩
  obtain ⟨us,ht,du⟩:=cp.ex;obtain ⟨t1,t2,D3,EX,hc,Eb,Et,DM,hd2⟩:=cp.cw.ex;have ul:=A3 du;have OX:=A3 Et;have MT:=A3 hd2;have l1:=cp.cw.l1;have l2:=cp.cw.l2;have ql:=cp.ok.len;refine ⟨_,rfl,c,_,_,_,rfl,rfl,Ay.of hc,rfl,t2,rfl,⟨_,Ay.of DM⟩,Cb (xs:=EX) (fun i σ H'=>(∃ v5 v6,σ=[some (.ref c),some (.ref A0),some (.ref t),some (.str y),some (.int (((Ar.zip qs).take i).map fun z=>DN ws y z.1 z.2.2).sum),v5,v6])/\Aq H H') ⟨⟨_,_,rfl⟩,Aq.refl _⟩ (fun i σ H' _ hP=>Ay.of (hP.2 _ _ DM)) (fun i v σ H' hv hP rt bk N hN=>?_) (fun σ H' hP=>?_)⟩
  ·obtain ⟨⟨v5,v6,rfl⟩,sa⟩:=hP;obtain ⟨r,tt,er,rfl,htt⟩:=Bb hd2 hv;have rm:=ZE er;have hi:i < qs.length:=by have:=(ZN.mp er).1; lia
   have eq:qs[i]? = some qs[i]:=Z9 hi;obtain ⟨r',Xk,rq⟩:=cp.ok.at eq;rw [er] at Xk;cases Xk
   have qnd:(qs.map (·.1)).Nodup:=by rw [cp.ok.nm]; exact cp.cw.ok2.nd
   exists tt,_,rfl,Ay.of (sa _ _ htt),rfl,_,_,rfl,_,_,rfl,rfl;refine ⟨_,rfl,_,rfl,t,us,Br qs,rfl,sa _ _ ht,by unfold Br; rw [ZA]; exact ul,Fg (Bi du fun b ys z=>sa _ _ z),by rw [Ck]; exact qnd,by unfold Br; rw [ZA]; lia,fun B hB=>?_⟩;have q1:=Ad (o:=.dK (sK (Br qs))) hB;have MA:(upd H' B (.dK (sK (Br qs)))) B=some (.dK (sK (Br qs))):=Ab;generalize upd H' B (.dK (sK (Br qs)))=H1 at q1 MA;have g1:=EG MA qnd (y:=r.1) (by rw [cp.ok.nm]; exact ZO.mpr ⟨r,rm,rfl⟩);have ec:BI qs r.1=qs[i].2:=by rw [rq]; exact Cg qnd (ZE eq)
   rw [ec] at g1;refine ⟨_,rfl,B,_,rfl,g1,_,rfl,_,rfl,_,rfl,_,rfl,(by show 2<=sizeLine; lia),fun T hT=>?_⟩;have q2:=Ad (o:=.tup [.str r.1,.str y]) hT;have K1:(upd H1 T (.tup [.str r.1,.str y])) T=some (.tup [.str r.1,.str y]):=Ab;generalize upd H1 T (.tup [.str r.1,.str y])=H2 at q2 K1;obtain ⟨g2,_,_⟩:=(((kn.same sa).same q1).same q2).get (cp.cw.ok2.sub r rm) hy K1;have r4:=cp.few r rm;have r1:=(cp.cw.ok2.lo r rm).1;exists A0,_,rfl,g2,_,_,rfl,rfl,.inl ⟨by lia,by lia⟩,_,_,rfl,rfl,_,_,rfl,_,_,rfl,rfl;refine hN _ _ ⟨⟨some (.str r.1),some (.int r.2),?_⟩,sa.trans (q1.trans q2)⟩;rw [K4 er eq,dz,eW,Tb];unfold DN;rfl
  ·obtain ⟨⟨v5,v6,rfl⟩,sa⟩:=hP;exists _,rfl;have e:EX.length=(Ar.zip qs).length:=by rw [Ob ql]; lia
   rw [e,ZY];exact k _ sa
theorem N2 (h_sum:mg "sum"=none) {f:Addr} {fd:FuncData} (F:Dm K "_law_low" "_law_low" Fe f fd):A8 P w K mg base Bt 1 f fd ["_law_case_here","_law_prices_here","_law_levy"] KU:=by
 refine F.ok II (fun vs H Q E h=>?_) (fun cdv A outer s H vs Q E hr h=>?_)
 ·obtain ⟨c,m,t,n,xs,ws,Ap,Ar,qs,x,d,lv,rfl,_⟩:=h;rfl
 ·obtain ⟨c,m,t,n,xs,ws,Ap,Ar,qs,x,d,lv,rfl,cp,ok,k⟩:=h;have nd:=II.nd;have big:100000 < sizeLine:=by decide
  refine ⟨_,(Af (Ao (i:=3) nd rfl (Or.inl rfl) (Ak (B6 rfl) (by rfl) h_sum PyProof.Rows.boot_sum (Aa (AS (N:=["_law_place","_law_price"]) (σ0:=fun _=>[none,none]) rfl (AD.plain (by decide +kernel) (by decide +kernel) rfl (by decide +kernel)) (fun σ _=>Ba.none _ _ _ ["_law_place","_law_price"] σ) (AR K rfl (pv 1))
   (fun s2 H C fp=>⟨(AO K rfl (n:=2) rfl (Aj (Ai (i:=0) (show (["_law_place","_law_price"]:List Str).Nodup by decide +kernel) rfl (Or.inl rfl)) (Aj (Ai (i:=1) (show (["_law_place","_law_price"]:List Str).Nodup by decide +kernel) rfl (Or.inl rfl)) AN))),AQ,(pv 1)⟩)) Ac)))
  (Af (Cr (F3 (G4 (Az (A7 K rfl) (pv 0) Ag (fun _ _=>rfl))))
  (Al (A4 (pv 3)))
  Bo)
  (Al (A4 (As G5 (pv 3) (As BG (Az (A7 K rfl) (pv 0) Ag (fun _ _=>rfl)) (pv 2))))))),?_⟩
  obtain ⟨us,ht,du⟩:=cp.ex;obtain ⟨t1,t2,D3,EX,hc,Eb,Et,DM,hd2⟩:=cp.cw.ex;have ul:=A3 du;have OX:=A3 Et;have MT:=A3 hd2;have l1:=cp.cw.l1;have l2:=cp.cw.l2;have ql:=cp.ok.len;exists _,rfl,t,rfl,⟨_,Ay.of ht⟩
  refine AX Be (xs:=us) (fun D i Aw H' acc=>∃ v0 v1:Option V,Aw=[v0,v1]/\Aq H H'/\H' D=some (.lst acc)/\acc=((qs.take i).map (·.2)).map V.int/\acc.length=i)
   (by lia) (fun D hD=>⟨_,_,rfl,Ad hD,Ab,rfl,rfl⟩) (fun D i Aw H' acc hD ⟨v0,v1,_,sa,AK,_,al⟩=>⟨Ay.of (sa _ _ ht),AK,al⟩) ?_ ?_
  ·rintro D i Aw H' acc x' B hD LF ⟨v0,v1,rfl,sa,AK,ea,al⟩ hB;obtain ⟨q,tt,eq,rfl,htt⟩:=Bb du LF;exists tt,_,rfl,Ay.of (sa _ _ htt),rfl,_,_,rfl,_,_,rfl,rfl;refine ⟨_,rfl,hB _ _ _ AK ⟨_,_,rfl,fun b o e=>by rw [Ae (Ah e hD)]; exact sa _ _ e,Ab,?_,by rw [ZH,al]; rfl⟩⟩;rw [ea,ZR,eq,ZG,ZG];rfl
  rintro D Aw H' acc hD ⟨v0,v1,rfl,sa,AK,ea,al⟩;rw [ul,ZY] at ea;exists D,_,rfl,AZ.of (by rw [AK,ea]);have lk:=k H' sa;unfold Qc IA at lk;rcases cp.cw.lim with ⟨rfl,_⟩ | ⟨j,rfl,_,j1,j2⟩
  ·exists _,rfl,c,_,_,_,rfl,rfl,Ay.of (sa _ _ hc),rfl,_,rfl;refine De ?_;exact ⟨_,rfl,lk⟩
  ·exists _,rfl,c,_,_,_,rfl,rfl,Ay.of (sa _ _ hc),rfl,_,rfl;refine BZ ?_;exact ⟨_,rfl,_,rfl,c,_,_,_,rfl,rfl,Ay.of (sa _ _ hc),rfl,_,rfl,_,_,rfl,rfl,.inr ⟨by have:=ok.1; lia,by have:=ok.2.1; lia⟩,_,_,rfl,rfl,lk⟩
end
section
variable {P:Program} {w:World} {K:ZD} {mg:Str->Option Value} {base:Heap}
theorem JK (h_dict:mg "dict"=none) (h_max:mg "max"=none) (h_min:mg "min"=none) {fG:Addr} {fdG:FuncData} (XG:Fn K mg "_law_gets" Ei ["_law_case_here","_law_away","_law_prices_here","_law_site"] fG fdG) (GG:A8 P w K mg base Bt 1 fG fdG ["_law_case_here","_law_away","_law_prices_here","_law_site"] Ou) {f:Addr} {fd:FuncData} (F:Dm K "_law_raised" "_law_raised" CS f fd):A8 P w K mg base Bt 2 f fd ["_law_case_here","_law_away","_law_prices_here","_law_levy","_law_at"] Kg:=by
 refine F.ok Fq (fun vs H Q E h=>?_) (fun cdv A outer s H vs Q E hr h=>?_)
 ·obtain ⟨c,m,t,A0,n,xs,ws,Ap,Ar,qs,x,d,lv,i,rfl,_⟩:=h;rfl
 ·obtain ⟨c,m,t,A0,n,xs,ws,Ap,Ar,qs,x,d,lv,i,rfl,cp,kn,Wy,YK,hi,k⟩:=h;have nd:=Fq.nd;have hu:=CN hr;have big:100000 < sizeLine:=by decide
  refine ⟨_,(Af (Dr (Az (A7 K rfl) (pv 2) (pv 4) (fun _ _=>rfl)) (AO K rfl rfl (Aj (Ai (i:=5) nd rfl (Or.inl rfl)) (Aj (Ai (i:=6) nd rfl (Or.inl rfl)) AN))))
  (Af (Ao (i:=7) nd rfl (Or.inl rfl) (AW hu (AA (Bs rfl) (by rfl) h_dict PyProof.Rows.boot_dict (Aa (Az (A7 K rfl) (pv 0) Ag (fun _ _=>rfl)) Ac)) (pv 5) (fun _ _=>rfl)))
  (Af (Ao (i:=8) nd rfl (Or.inl rfl) (As (Du K rfl) (As (Du K rfl) (Ds (Eg K rfl) (pv 2) Dc (CZ (pv 4))) (AH (Aa (AH (Aa (pv 5) (Aa Ag Ac))) Ac))) (Ds (Eg K rfl) (pv 2) (CZ (As Bg (pv 4) Ag)) Dc)))
  (Af (Ao (i:=9) nd rfl (Or.inl rfl) (Bw Ac))
  (Af (BC PassesOwn.never rfl (AR K rfl (Az (A7 K rfl) (pv 0) Ag (fun _ _=>rfl))) (AO K rfl rfl (Aj (Ai (i:=10) nd rfl (Or.inl rfl)) (Aj (Ai (i:=11) nd rfl (Or.inl rfl)) AN)))
  (Al (FX (Ht PySem.F.plainAttrs_list PySem.F.slot_list_append PySem.F.type_list_append C4 (pv 9) (Aa (As Bg (As G5 (As Bg (pv 11) (pv 3)) (Am GG (hr.mono (by decide)) (by rfl) XG.mg XG.F.kp XG.b .nil Ax (Aa (pv 0) (Aa (pv 1) (Aa (pv 8) (Aa (pv 10) Ac)))))) (As BG (pv 7) (AW hu (pv 1) (AH (Aa (pv 5) (Aa (pv 10) Ac))) (fun _ _=>rfl)))) Ac)))))
  (Al (A4 (As (Du K rfl) (As (Du K rfl) (Ds (Eg K rfl) (pv 2) Dc (CZ (pv 4))) (AH (Aa (AH (Aa (pv 5) (Aa (Ak (Hc rfl) (by rfl) h_max PyProof.Rows.boot_max (Aa Ag (Aa (Ak (Fy rfl) (by rfl) h_min PyProof.Rows.boot_min (Aa (pv 9) Ac)) Ac))) Ac))) Ac))) (Ds (Eg K rfl) (pv 2) (CZ (As Bg (pv 4) Ag)) Dc))))))))),?_⟩
  obtain ⟨us,ht,du⟩:=cp.ex;obtain ⟨t1,t2,D3,EX,hc,Eb,Et,DM,hd2⟩:=cp.cw.ex;have ul:=A3 du;have OX:=A3 Et;have MT:=A3 hd2;have l1:=cp.cw.l1;have l2:=cp.cw.l2;have ql:=cp.ok.len;have MX:i < us.length:=by lia
  obtain ⟨q,tt,eq,e2,htt⟩:=Bb du (Z9 MX);have en:=Lp eq;have qm:=ZE eq;have Xq:Gv us (i:Int)=some (.ref tt):=by rw [CA (Z9 MX),e2]
  obtain ⟨r,er,rq⟩:=cp.ok.at eq;have rm:=ZE er;exists _,rfl,_,rfl,t,_,_,_,rfl,rfl,Ay.of ht,Xq,tt,_,rfl,Ay.of htt,rfl,_,_,rfl,_,_,rfl,rfl;refine ⟨_,rfl,c,_,_,_,rfl,rfl,Ay.of hc,rfl,t2,EX,Br Ar,rfl,DM,by unfold Br; rw [ZA]; exact MT,Fg hd2,by rw [Ck]; exact cp.cw.ok2.nd,by unfold Br; rw [ZA]; lia,fun B hB=>?_⟩;have b1:=Ad (o:=.dK (sK (Br Ar))) hB;have MA:(upd H B (.dK (sK (Br Ar)))) B=some (.dK (sK (Br Ar))):=Ab;generalize upd H B (.dK (sK (Br Ar)))=HB at b1 MA ⊢;have g1:=EG MA cp.cw.ok2.nd (y:=q.1) (by rw [<-rq]; exact ZO.mpr ⟨r,rm,rfl⟩);have ec:BI Ar q.1=r.2:=by rw [<-rq]; exact Cg cp.cw.ok2.nd rm
  rw [ec] at g1;exists _,rfl,B,_,rfl,g1;have htB:=b1 _ _ ht;refine ⟨_,rfl,_,rfl,_,rfl,UO htB MX fun Z1a Xt Wo Zz=>?_⟩;refine ⟨_,rfl,(by show 2<=sizeLine; lia),fun T hTa=>⟨(by show 1<=sizeLine; lia),fun Ya hYa=>?_⟩⟩;have UZ:=Ad (o:=.tup [.str q.1,.int 0]) hTa;have hTTa:(upd Xt T (.tup [.str q.1,.int 0])) T=some (.tup [.str q.1,.int 0]):=Ab;generalize upd Xt T (.tup [.str q.1,.int 0])=Xs at UZ hTTa hYa ⊢;have SK:=Ad (o:=.tup [.ref T]) hYa;have hYYa:(upd Xs Ya (.tup [.ref T])) Ya=some (.tup [.ref T]):=Ab;generalize upd Xs Ya (.tup [.ref T])=H3a at SK hYYa ⊢;refine NT (K:=K) (SK _ _ (UZ _ _ Zz)) hYYa (by rw [ah]; show _ + 1<=sizeLine; lia) fun Z2a H4a Wn Zx=>?_
  have sAa:=Wo.trans (UZ.trans (SK.trans Wn));exists _,rfl,_,rfl,_,_,rfl,rfl,_,rfl;dsimp only [Ia];refine UP (K:=K) (sAa _ _ htB) MX fun Z3a H5a Wm Zw=>?_
  refine NT (K:=K) (Wm _ _ Zx) Zw (by rw [ZH,ah,bA]; show _ + 1 + _<=sizeLine; lia) fun Za Yq Y4 Zv=>?_
  have sBa:=Wm.trans Y4;have salla:=sAa.trans sBa;have V2:=sBa _ _ (Wn _ _ (SK _ _ hTTa));have cpO:CP Yq c m Za n xs ws Ap Ar (BQ qs i 0) x d:=((cp.same b1).same salla).put (Bi du fun b ys z=>salla _ _ (b1 _ _ z)) hi (aV _) (by rw [en]; exact V2) Zv;have sO:=b1.trans salla;refine ⟨(by show 0<=sizeLine; lia),fun L0 Uu=>?_⟩;have hyx:q.1 ∈ xs:=(cp.names q qm).1;have r4:=cp.few r rm;have r1:=(cp.cw.ok2.lo r rm).1;refine ⟨_,rfl,c,_,_,_,rfl,rfl,Ay.of (Ad Uu _ _ (sO _ _ hc)),rfl,t1,rfl,⟨_,Ay.of (Ad Uu _ _ (sO _ _ Eb))⟩,Cb (xs:=D3) (fun j σ H'=>(∃ v10 v11,σ=[some (.ref c),some (.ref A0),some (.ref t),some (.int lv),some (.int i),some (.str q.1),some (.int q.2),some (.int r.2),some (.ref Za),some (.ref L0),v10,v11])/\Aq Yq H'/\∃ ns:List Int,H' L0=some (.lst (ns.map V.int))/\ns.length=j/\(∀ n ∈ ns,n < 2 ^ 400)/\ns=(Ap.take j).map fun s=>s.2 + lv - B8 ws s.1 Ar (BQ qs i 0) + r.2 * dst ws s.1 q.1)
   ⟨⟨_,_,rfl⟩,Ad Uu,[],Ab,rfl,(fun n hn=>nomatch hn),rfl⟩ (fun j σ H' _ hP=>Ay.of (hP.2.1 _ _ (sO _ _ Eb))) (fun j v σ H' hv hP rt bk N hN=>?_) (fun σ H' hP=>?_)⟩
  ·obtain ⟨⟨v10,v11,rfl⟩,sa,ns,hL,nl,nb,nv⟩:=hP;obtain ⟨s1,tt1,es,rfl,hts⟩:=Bb Et hv;have sm:=ZE es;have jl:j < Ap.length:=(ZN.mp es).1;exists tt1,_,rfl,Ay.of (sa _ _ (sO _ _ hts)),rfl,_,_,rfl,_,_,rfl,rfl;refine ⟨_,rfl,.inl ⟨rfl,_,AZ.of hL⟩,_,rfl,_,rfl,_,_,rfl,rfl,_,rfl,_,rfl,_,rfl,_,rfl,c,m,Za,A0,n,xs,ws,Ap,Ar,BQ qs i 0,x,d,s1.1,rfl,cpO.same sa,(kn.same sO).same sa,cp.cw.ok1.sub s1 sm,fun H7 s7=>?_⟩;refine ⟨_,_,rfl,rfl,_,rfl,_,rfl,_,rfl,_,rfl,(by show 2<=sizeLine; lia),fun T hT=>?_⟩;have q7:=s7.trans (Ad (o:=.tup [.str q.1,.str s1.1]) hT);have K1:(upd H7 T (.tup [.str q.1,.str s1.1])) T=some (.tup [.str q.1,.str s1.1]):=Ab;generalize upd H7 T (.tup [.str q.1,.str s1.1])=H8 at q7 K1 ⊢;obtain ⟨g2,d0,d1⟩:=(((kn.same sO).same sa).same q7).get hyx (cp.cw.ok1.sub s1 sm) K1;exists A0,_,rfl,g2,_,_,rfl,rfl,.inl ⟨by lia,by lia⟩,_,_,rfl,rfl,L0,_,_,rfl,rfl,q7 _ _ hL,by rw [ZA]; lia
   refine hN _ _ ⟨⟨_,_,rfl⟩,fun b o z=>by rw [Ae (Ah z Uu)]; exact q7 _ _ (sa _ _ z),ns ++ [s1.2 + lv - B8 ws s1.1 Ar (BQ qs i 0) + r.2 * dst ws s1.1 q.1],by rw [Ab,ZG]; rfl,by rw [ZH,nl]; rfl,fun z hz=>?_,by rw [ZR,es,ZG,<-nv]; rfl⟩;rcases af.mp hz with hz | hz
   ·exact nb z hz
   ·rw [aa] at hz;subst hz;exact Rq (cp.cw.ok1.lo s1 sm).2 YK (Qm _ _ _ _) r1 r4 d0 d1
  obtain ⟨⟨v10,v11,rfl⟩,sa,ns,hL,nl,nb,nv⟩:=hP;have one:=cp.cw.ok1.one;have nne:ns ≠ []:=fun z=>by rw [z] at nl; rw [<-OX] at one; simp at nl; lia
  have htE:=sa _ _ (salla _ _ htB);refine ⟨_,rfl,_,rfl,_,rfl,UO htE MX fun Z1b H1b VR h1b=>?_⟩;refine ⟨_,rfl,_,rfl,L0,ns,rfl,VR _ _ hL,nne,fun mn hm hle=>⟨_,_,rfl,(by show 2<=sizeLine; lia),fun T hTb=>⟨(by show 1<=sizeLine; lia),fun Yb hYb=>?_⟩⟩⟩;have YC:=Ad (o:=.tup [.str q.1,.int (if mn > 0 then mn else 0)]) hTb;have hTTb:(upd H1b T (.tup [.str q.1,.int (if mn > 0 then mn else 0)])) T=some (.tup [.str q.1,.int (if mn > 0 then mn else 0)]):=Ab;generalize upd H1b T (.tup [.str q.1,.int (if mn > 0 then mn else 0)])=H2b at YC hTTb hYb ⊢;have X5:=Ad (o:=.tup [.ref T]) hYb;have hYYb:(upd H2b Yb (.tup [.ref T])) Yb=some (.tup [.ref T]):=Ab;generalize upd H2b Yb (.tup [.ref T])=H3b at X5 hYYb ⊢;refine NT (K:=K) (X5 _ _ (YC _ _ h1b)) hYYb (by rw [ah]; show _ + 1<=sizeLine; lia) fun Z2b H4b s4b h4b=>?_
  have sAb:=VR.trans (YC.trans (X5.trans s4b));exists _,rfl,_,rfl,_,_,rfl,rfl,_,rfl;dsimp only [Ia];refine UP (K:=K) (sAb _ _ htE) MX fun Z3b H5b s5b h5b=>?_
  refine NT (K:=K) (s5b _ _ h4b) h5b (by rw [ZH,ah,bA]; show _ + 1 + _<=sizeLine; lia) fun Zb H6b s6b h6b=>?_
  have sBb:=s5b.trans s6b;have sallb:=sAb.trans sBb;have Zp:=sBb _ _ (s4b _ _ (X5 _ _ hTTb));have sF:=b1.trans (salla.trans (sa.trans sallb));have p0:(0:Int)<=(if mn > 0 then mn else 0):=by split <;> lia
  have p1:(if mn > 0 then mn else 0) < (2:Int) ^ 400:=by
   split
   ·exact nb mn hm
   ·exact (by decide +kernel)
  have lo:∀ s ∈ Ap,0<=r.2 * dst ws s.1 q.1:=fun s hs=>dM (by lia) (kn.lo hyx (cp.cw.ok1.sub s hs))
  have room:∀ s ∈ Ap,mn<=s.2 + lv - B8 ws s.1 Ar (BQ qs i 0) + r.2 * dst ws s.1 q.1:=fun s hs=>hle _ (by rw [nv,OX,ZY]; exact ZO.mpr ⟨s,hs,rfl⟩)
  exact k H6b Zb _ sF p0 p1 (fun hst p' Zc=>Pj hst er eq rq (cp.ok.lo q qm) lo room Zc) ((cp.same sF).put (Bi du fun b ys z=>sF _ _ z) hi p0 (by rw [en]; exact Zp) h6b)
theorem JL (h_len:mg "len"=none) (h_list:mg "list"=none) (h_range:mg "range"=none) (h_tuple:mg "tuple"=none) {fT:Addr} {fdT:FuncData} (XT:Fn K mg "_law_take" Bv ["_law_pen_here","_law_many"] fT fdT) (GT:A8 P w K mg base Bt 1 fT fdT ["_law_pen_here","_law_many"] CO) {fRA:Addr} {fdRA:FuncData} (XRA:Fn K mg "_law_raised" CS ["_law_case_here","_law_away","_law_prices_here","_law_levy","_law_at"] fRA fdRA) (GRA:A8 P w K mg base Bt 2 fRA fdRA ["_law_case_here","_law_away","_law_prices_here","_law_levy","_law_at"] Kg) {f:Addr} {fd:FuncData} (F:Dm K "_law_prices" "_law_prices" CT f fd):A8 P w K mg base Bt 3 f fd ["_law_pen_here","_law_case_here","_law_away","_law_levy"] Kh:=by
 refine F.ok Fs (fun vs H Q E h=>?_) (fun cdv A outer s H vs Q E hr h=>?_)
 ·obtain ⟨p,c,m,A0,n,xs,ws,Ap,Ar,x,d,lv,rfl,_⟩:=h;rfl
 ·obtain ⟨p,c,m,A0,n,xs,ws,Ap,Ar,x,d,lv,rfl,hP,cw,few,kn,Wy,YK,k⟩:=h;have nd:=Fs.nd;have big:100000 < sizeLine:=by decide
  refine ⟨_,(Af (Ao (i:=4) nd rfl (Or.inl rfl) (AA B5 (by rfl) h_tuple PyProof.Rows.boot_tuple (Aa (AS (N:=["_law_place","_law_many"]) (σ0:=fun _=>[none,none]) rfl (AD.plain (by decide +kernel) (by decide +kernel) rfl (by decide +kernel)) (fun σ _=>Ba.none _ _ _ ["_law_place","_law_many"] σ) (AR K rfl (Az (A7 K rfl) (pv 1) Ag (fun _ _=>rfl)))
   (fun s2 H C fp=>⟨(AO K rfl (n:=2) rfl (Aj (Ai (i:=0) (show (["_law_place","_law_many"]:List Str).Nodup by decide +kernel) rfl (Or.inl rfl)) (Aj (Ai (i:=1) (show (["_law_place","_law_many"]:List Str).Nodup by decide +kernel) rfl (Or.inl rfl)) AN))),AQ,(AH (Aa (pv 0) (Aa Ag Ac)))⟩)) Ac)))
  (Af (Ao (i:=5) nd rfl (Or.inl rfl) (AA (JV rfl) (by rfl) h_list PyProof.Rows.boot_list (Aa (AA Qz (by rfl) h_range PyProof.Rows.boot_range (Aa (Ak AI (by rfl) h_len PySem.boot_len (Aa (pv 4) Ac)) Ac)) Ac)))
  (Af (BC PassesOwn.never rfl (C0 (by rfl) h_range (Aa (Ak AI (by rfl) h_len PySem.boot_len (Aa (pv 4) Ac)) Ac)) (Ai (i:=6) nd rfl (Or.inl rfl))
  (Af (Ao (i:=7) nd rfl (Or.inl rfl) (Ht PySem.F.plainAttrs_list PySem.F.slot_list_pop PySem.F.type_list_pop M4 (pv 5) (Aa (Am GT (hr.mono (by decide)) (by rfl) XT.mg XT.F.kp XT.b .nil Ax (Aa (pv 0) (Aa (Ak AI (by rfl) h_len PySem.boot_len (Aa (pv 5) Ac)) Ac))) Ac)))
  (Af (Ao (i:=8) nd rfl (Or.inl rfl) (Am GRA (hr.mono (by decide)) (by rfl) XRA.mg XRA.F.kp XRA.b .nil Ax (Aa (pv 1) (Aa (pv 2) (Aa (pv 4) (Aa (pv 3) (Aa (pv 7) Ac)))))))
  (Af (Ao (i:=4) nd rfl (Or.inl rfl) (pv 8))
  (Al (Cr (By Hu (Am GT (hr.mono (by decide)) (by rfl) XT.mg XT.F.kp XT.b .nil Ax (Aa (pv 0) (Aa Ag Ac))) Ag (Bx _))
  (Af (Ao (i:=9) nd rfl (Or.inl rfl) (Am GT (hr.mono (by decide)) (by rfl) XT.mg XT.F.kp XT.b .nil Ax (Aa (pv 0) (Aa (As Bg (Az (A7 K rfl) (Az (A7 K rfl) (pv 8) (pv 7) (fun _ _=>rfl)) Ag (fun _ _=>rfl)) Ag) Ac))))
  (Al (Ao (i:=4) nd rfl (Or.inl rfl) (As (Du K rfl) (As (Du K rfl) (Ds (Eg K rfl) (pv 8) Dc (CZ (pv 7))) (AH (Aa (AH (Aa (Az (A7 K rfl) (Az (A7 K rfl) (pv 8) (pv 7) (fun _ _=>rfl)) Ag (fun _ _=>rfl)) (Aa (pv 9) Ac))) Ac))) (Ds (Eg K rfl) (pv 8) (CZ (As Bg (pv 7) Ag)) Dc)))))
  Bo))))))
  (Al (A4 (pv 4)))))),?_⟩
  obtain ⟨t1,t2,D3,EX,hc,Eb,Et,DM,hd2⟩:=cw.ex;have MT:=A3 hd2;have l2:=cw.l2;have one:=cw.ok2.one;exists _,rfl,c,_,_,_,rfl,rfl,Ay.of hc,rfl,t2,rfl,⟨_,Ay.of DM⟩
  refine AX Be (xs:=EX) (fun D i Aw H' acc=>∃ v0 v1:Option V,Aw=[v0,v1]/\Aq H H'/\H' D=some (.lst acc)/\AE H' acc ((Fo (Ar.take i)).map Cm)/\acc.length=i)
   (by lia) (fun D hD=>⟨_,_,rfl,Ad hD,Ab,.nil,rfl⟩) (fun D i Aw H' acc hD ⟨v0,v1,_,sa,AK,_,al⟩=>⟨Ay.of (sa _ _ DM),AK,al⟩) ?_ ?_
  ·rintro D i Aw H' acc x' B hD LF ⟨v0,v1,rfl,sa,AK,dd,al⟩ hB;obtain ⟨r,tt,er,rfl,htt⟩:=Bb hd2 LF;exists tt,_,rfl,Ay.of (sa _ _ htt),rfl,_,_,rfl,_,_,rfl,rfl;refine ⟨_,rfl,(by show 2<=sizeLine; lia),fun T hT=>?_⟩;have q:=Ad (o:=.tup [.str r.1,.int 0]) hT;have K1:(upd H' T (.tup [.str r.1,.int 0])) T=some (.tup [.str r.1,.int 0]):=Ab;generalize upd H' T (.tup [.str r.1,.int 0])=H6 at q K1 ⊢;have d6:=q _ _ AK;refine hB _ _ _ d6 ⟨_,_,rfl,fun b o e=>by rw [Ae (Ah e hD)]; exact q _ _ (sa _ _ e),Ab,?_,by rw [ZH,al]; rfl⟩;unfold Fo at dd ⊢;rw [ZR,er,ZG,ZG];refine CG (Bi dd fun b ys e=>?_) (.cons (FV (u:=(r.1,0)) (by rw [Ae (by intro z; subst z; rw [d6] at K1; cases K1)]; exact K1)) .nil);rw [Ae (by intro z; subst z; rw [AK] at e; cases e)];exact q _ _ e
  rintro D Aw H1 acc hD ⟨v0,v1,rfl,sa,AK,dd,al⟩;rw [MT,ZY] at dd;refine ⟨D,_,rfl,.inl ⟨AZ.of AK,fun T0 Zs=>?_⟩⟩;have b1:=Ad (o:=.tup acc) Zs;have Tr:(upd H1 T0 (.tup acc)) T0=some (.tup acc):=Ab;have cp0:CP (upd H1 T0 (.tup acc)) c m T0 n xs ws Ap Ar (Fo Ar) x d:=⟨(cw.same sa).same b1,few,⟨acc,Tr,Bi dd fun b ys z=>b1 _ _ z⟩,QD Ar⟩
  have s2:=sa.trans b1;generalize upd H1 T0 (.tup acc)=H2 at b1 Tr cp0 s2 ⊢;refine ⟨_,rfl,T0,_,rfl,.inr (Ay.of Tr),(acc.length:Int),rfl,fun R hR=>⟨R,acc.length,rfl,Ab,by lia,fun O hO=>?_⟩⟩;have s3:=(Ad (o:=.rng 0 (acc.length:Int)) hR).trans (Ad (o:=.lst ((aP acc.length).map fun (i:Nat)=>V.int (i:Int))) hO);have hOO:(upd (upd H2 R (.rng 0 (acc.length:Int))) O (.lst ((aP acc.length).map fun (i:Nat)=>V.int (i:Int)))) O=some (.lst ((aP acc.length).map fun (i:Nat)=>V.int (i:Int))):=Ab;have hO2:H2 O=none:=(Ad (o:=.rng 0 (acc.length:Int)) hR).free hO;generalize upd (upd H2 R (.rng 0 (acc.length:Int))) O (.lst ((aP acc.length).map fun (i:Nat)=>V.int (i:Int)))=H3 at s3 hOO ⊢;have hOH:H O=none:=s2.free hO2;have nOp:O ≠ p:=hP.ne hOH;refine ⟨_,rfl,T0,_,rfl,.inr (Ay.of (s3 _ _ Tr)),(acc.length:Int),rfl,by lia,by lia,Dk (n:=(acc.length:Int).toNat) (fun j σ H'=>∃ (v6 v7 v8 v9:Option V) (T:Addr) (qs:List AY) (os:List Nat),σ=[some (.ref p),some (.ref c),some (.ref A0),some (.int lv),some (.ref T),some (.ref O),v6,v7,v8,v9]/\A6 H' p/\A9 p H H'/\CP H' c m T n xs ws Ap Ar qs x d/\BU H' A0 xs ws/\(BV ws Ap Ar qs lv=true/\∀ q ∈ qs,q.2 < 2 ^ 400)/\H' O=some (.lst (os.map fun (i:Nat)=>V.int (i:Int)))/\os.length + j=acc.length/\∀ o ∈ os,o < acc.length)
   ⟨_,_,_,_,T0,Fo Ar,aP acc.length,rfl,(hP.same s2).same s3,A9.of_same (s2.trans s3),cp0.same s3,(kn.same s2).same s3,⟨Nb (fun s hs r hr=>dM (by have:=(cw.ok2.lo r hr).1; lia) (kn.lo (cw.ok2.sub r hr) (cw.ok1.sub s hs))) (fun s hs=>(cw.ok1.lo s hs).1) Wy,QE⟩,hOO,by rw [bo]; rfl,fun o ho=>bO.mp ho⟩ ?_ ?_⟩
  ·rintro j σ H4 hj ⟨v6,v7,v8,v9,T,qs,os,rfl,P4,k4,Yo,VV,⟨JB,Yp⟩,Wa,ol,ob⟩;rw [cq] at hj;refine ⟨_,rfl,.inl ⟨rfl,_,AZ.of Wa⟩,_,rfl,_,rfl,O,_,rfl,.inl (AZ.of Wa),p,_,rfl,P4,?_,CM ?_,fun e' a1 TB c1 Yn We=>?_⟩
   ·rw [ZA]; lia
   ·rw [ZA]; lia
   rw [ZA] at We;obtain ⟨g,rfl⟩:∃ g:Nat,e'=(g:Int):=⟨e'.toNat,by lia⟩
   have hg:g < os.length:=by lia
   have hget:os[g]? = some os[g]:=Z9 hg;have h5:(upd H4 p (.lst (A1 a1 TB c1))) O=some (.lst (os.map fun (i:Nat)=>V.int (i:Int))):=by rw [Ae nOp]; exact Wa
   exists O,_,_,g,.int (os[g]:Nat),rfl,rfl,h5,by lia,by lia,?_,by rw [ZL,hget]; rfl
   ·rw [ZA];exact (Ik (by show RL os.length (g:Int)=some g; unfold RL; rw [if_pos (by lia),if_pos (by lia)]; rfl)).1
   rw [G9];obtain ⟨i,ei⟩:∃ i,i=os[g]:=⟨_,rfl⟩
   rw [<-ei];have hi0:i < acc.length:=by rw [ei]; exact ob _ (aN hg)
   have ql:=Yo.ok.len;have hi:i < qs.length:=by lia
   have P6:A6 (upd (upd H4 p (.lst (A1 a1 TB c1))) O (.lst ((os.eraseIdx g).map fun (i:Nat)=>V.int (i:Int)))) p:=(A6.set a1 TB c1).other nOp;have k6:A9 p H (upd (upd H4 p (.lst (A1 a1 TB c1))) O (.lst ((os.eraseIdx g).map fun (i:Nat)=>V.int (i:Int)))):=fun b o hb e=>by rw [Ae (Ah e hOH),Ae hb]; exact k4 b o hb e
   have tk:∀ b ys,H4 b=some (.tup ys)->(upd (upd H4 p (.lst (A1 a1 TB c1))) O (.lst ((os.eraseIdx g).map fun (i:Nat)=>V.int (i:Int)))) b=some (.tup ys):=fun b ys e=>by
    rw [Ae (by intro z; subst z; rw [Wa] at e; cases e),Ae (by intro z; subst z; obtain ⟨_,_,_,z⟩:=P4; rw [z] at e; cases e)];exact e
   have YM:BU (upd (upd H4 p (.lst (A1 a1 TB c1))) O (.lst ((os.eraseIdx g).map fun (i:Nat)=>V.int (i:Int)))) A0 xs ws:=by
    obtain ⟨M,cc,⟨kvs,a,b,e⟩,r⟩:=VV;refine ⟨M,cc,⟨kvs,?_,b,e⟩,r⟩;rw [Ae (by intro z; subst z; rw [Wa] at a; cases a),Ae (by intro z; subst z; obtain ⟨_,_,_,z⟩:=P4; rw [z] at a; cases a)];exact a
   have hO6:(upd (upd H4 p (.lst (A1 a1 TB c1))) O (.lst ((os.eraseIdx g).map fun (i:Nat)=>V.int (i:Int)))) O=some (.lst ((os.eraseIdx g).map fun (i:Nat)=>V.int (i:Int))):=Ab;have cp6:=Yo.keepT tk;generalize upd (upd H4 p (.lst (A1 a1 TB c1))) O (.lst ((os.eraseIdx g).map fun (i:Nat)=>V.int (i:Int)))=H6 at P6 k6 YM hO6 cp6 ⊢;have ol6:(os.eraseIdx g).length + (j + 1)=acc.length:=by rw [cL,if_pos hg]; lia
   have ob6:∀ o ∈ os.eraseIdx g,o < acc.length:=fun o ho=>ob o (List.mem_of_mem_eraseIdx ho)
   refine ⟨_,rfl,_,rfl,_,rfl,_,rfl,_,rfl,c,m,T,A0,n,xs,ws,Ap,Ar,qs,x,d,lv,i,rfl,cp6,YM,Wy,YK,hi,fun H7 T7 pr s7 pr0 YD st7 cp7=>⟨_,rfl,?_⟩⟩;have P7:=P6.same s7;have k7:=k6.trans (A9.of_same s7);have YL:=YM.same s7;have hO7:=s7 _ _ hO6;refine ⟨_,rfl,p,3,rfl,P7,by decide,CM (by decide),fun e2 a2 b2 c2 e20 e21=>⟨rfl,_,rfl,?_⟩⟩;have P8:A6 (upd H7 p (.lst (A1 a2 b2 c2))) p:=A6.set _ _ _;have Tf:A9 p H7 (upd H7 p (.lst (A1 a2 b2 c2))):=A9.upd;generalize upd H7 p (.lst (A1 a2 b2 c2))=H8 at P8 Tf ⊢;have k8:=k7.trans Tf;have Z3:=cp7.keepT (F0 P7 Tf);have kn8:=YL.keep P7 Tf;have hO8:=Tf _ _ nOp hO7;refine CL (fun _=>?_) (fun _=>?_)
   ·obtain ⟨us,ht,du⟩:=Z3.ex;have ul:=A3 du;have pl:=Rt (p:=pr) hi;have MX:i < us.length:=by lia
    obtain ⟨q,tt,eq,Wf,htt⟩:=Bb du (Z9 MX);have en:=Lp eq;rw [OA hi] at en;subst en;have Xq:Gv us (i:Int)=some (.ref tt):=by rw [CA (Z9 MX),Wf]
    refine ⟨_,rfl,_,rfl,_,rfl,T7,_,_,_,rfl,rfl,Ay.of ht,Xq,tt,_,_,_,rfl,rfl,Ay.of htt,rfl,_,_,rfl,rfl,p,pr + 1,rfl,P8,by lia,Vr YD,fun e3 a3 b3 c3 e30 e31=>?_⟩;have P9:A6 (upd H8 p (.lst (A1 a3 b3 c3))) p:=A6.set _ _ _;have Ul:A9 p H8 (upd H8 p (.lst (A1 a3 b3 c3))):=A9.upd;generalize upd H8 p (.lst (A1 a3 b3 c3))=H9 at P9 Ul ⊢;have t9:=F0 P8 Ul;have YW:=t9 _ _ ht;have YV:=t9 _ _ htt;refine ⟨_,rfl,_,rfl,_,rfl,UO YW MX fun Z1a Xt Wo Zz=>?_⟩;refine ⟨_,rfl,_,rfl,T7,_,_,_,rfl,rfl,Ay.of (Wo _ _ YW),Xq,tt,_,_,_,rfl,rfl,Ay.of (Wo _ _ YV),rfl,_,rfl,(by show 2<=sizeLine; lia),fun T hTa=>⟨(by show 1<=sizeLine; lia),fun Ya hYa=>?_⟩⟩;have UZ:=Ad (o:=.tup [.str (PV qs i).1,.int e3]) hTa;have hTTa:(upd Xt T (.tup [.str (PV qs i).1,.int e3])) T=some (.tup [.str (PV qs i).1,.int e3]):=Ab;generalize upd Xt T (.tup [.str (PV qs i).1,.int e3])=Xs at UZ hTTa hYa ⊢;have SK:=Ad (o:=.tup [.ref T]) hYa;have hYYa:(upd Xs Ya (.tup [.ref T])) Ya=some (.tup [.ref T]):=Ab;generalize upd Xs Ya (.tup [.ref T])=H3a at SK hYYa ⊢;refine NT (K:=K) (SK _ _ (UZ _ _ Zz)) hYYa (by rw [ah]; show _ + 1<=sizeLine; lia) fun Z2a H4a Wn Zx=>?_
    have sAa:=Wo.trans (UZ.trans (SK.trans Wn));exists _,rfl,_,rfl,_,_,rfl,rfl,_,rfl;dsimp only [Ia];refine UP (K:=K) (sAa _ _ YW) MX fun Z3a H5a Wm Zw=>?_
    refine NT (K:=K) (Wm _ _ Zx) Zw (by rw [ZH,ah,bA]; show _ + 1 + _<=sizeLine; lia) fun Za Yq Y4 Zv=>?_
    have sBa:=Wm.trans Y4;have salla:=sAa.trans sBa;have V2:=sBa _ _ (Wn _ _ (SK _ _ hTTa));have cpF:CP Yq c m Za n xs ws Ap Ar (BQ (BQ qs i pr) i e3) x d:=((Z3.keepT t9).same salla).put (Bi du fun b ys z=>salla _ _ (t9 _ _ z)) (by lia) e30 (by rw [OA hi]; exact V2) Zv;exact ⟨_,_,_,_,Za,_,os.eraseIdx g,rfl,P9.same salla,(k8.trans Ul).trans (A9.of_same salla),cpF,(kn8.keep P8 Ul).same salla,⟨by rw [IK hi]; exact st7 JB e3 (by lia),by rw [IK hi]; exact O3 Yp (cZ (by lia) YD)⟩,salla _ _ (Ul _ _ nOp hO8),ol6,ob6⟩
   ·exact ⟨_,_,_,_,T7,_,os.eraseIdx g,rfl,P8,k8,Z3,kn8,⟨st7 JB pr (aV _),O3 Yp YD⟩,hO8,ol6,ob6⟩
  ·rintro σ H4 ⟨v6,v7,v8,v9,T,qs,os,rfl,P4,k4,Yo,VV,⟨JB,Yp⟩,Wa,ol,ob⟩;exact ⟨_,rfl,k H4 T qs P4 k4 Yo JB Yp⟩
end
section
variable {P:Program} {w:World} {K:ZD} {mg:Str->Option Value} {base:Heap}
theorem Hw (h_bool:mg "bool"=none) (h_int:mg "int"=none) (h_isinstance:mg "isinstance"=none) {f:Addr} {fd:FuncData} (F:Dm K "is_whole" "is_whole" Em f fd):A8 P w K mg base Bt 1 f fd ["thing"] (LR K):=by
 refine F.ok Hn (fun vs H Q E h=>?_) (fun cdv A outer s H vs Q E hr h=>?_)
 ·obtain ⟨v,b,rfl,_⟩:=h;rfl
 ·obtain ⟨v,b,rfl,hb,k⟩:=h;have nd:=Hn.nd;have big:100000 < sizeLine:=by decide
  exists _,(Al (A4 (C1 (Ak BF (by rfl) h_isinstance PyProof.Rows.boot_isinstance (Aa (pv 0) (Aa (Dd (v:=.ty "int") (by rfl) h_int PyProof.Rows.boot_int rfl) Ac))) (Dt (Vg (Ak BF (by rfl) h_isinstance PyProof.Rows.boot_isinstance (Aa (pv 0) (Aa (Dd (v:=.ty "bool") (by rfl) h_bool PyProof.Rows.boot_bool rfl) Ac))))))))
  rcases hb with ⟨n,rfl,rfl⟩ | ⟨rfl,⟨c,rfl⟩ | ⟨ty,t1,t2⟩⟩
  ·exists _,rfl,_,"int",_,_,rfl,.int _,rfl,_,rfl;refine De ?_;exact ⟨_,rfl,_,"bool",_,_,rfl,.int _,rfl,_,rfl,k⟩
  ·exists _,rfl,_,"int",_,_,rfl,.bl _,rfl,_,rfl;refine De ?_;exact ⟨_,rfl,_,"bool",_,_,rfl,.bl _,rfl,_,rfl,k⟩
  ·exists _,rfl,_,"int",_,_,rfl,t1,t2,_,rfl;refine BZ ?_;exact k
theorem DX  {fW:Addr} {fdW:FuncData} (XW:Fn K mg "is_whole" Em ["thing"] fW fdW) (GW:A8 P w K mg base Bt 1 fW fdW ["thing"] (LR K)) {f:Addr} {fd:FuncData} (F:Dm K "is_whole_from" "is_whole_from" BK f fd):A8 P w K mg base Bt 2 f fd ["thing","least"] (Gy K):=by
 refine F.ok DT (fun vs H Q E h=>?_) (fun cdv A outer s H vs Q E hr h=>?_)
 ·obtain ⟨v,l,b,rfl,_⟩:=h;rfl
 ·obtain ⟨v,l,b,rfl,hb,k⟩:=h;have nd:=DT.nd;have big:100000 < sizeLine:=by decide
  exists _,(Al (A4 (C1 (Am GW (hr.mono (by decide)) (by rfl) XW.mg XW.F.kp XW.b .nil Ax (Aa (pv 0) Ac)) (Dt (Ct Uh (pv 0) (pv 1) (Bx _))))))
  rcases hb with ⟨n,rfl,rfl⟩ | ⟨rfl,hb⟩
  ·exists _,rfl,.int n,true,rfl,.inl ⟨n,rfl,rfl⟩,_,rfl;refine De ?_;exact ⟨_,rfl,_,rfl,_,_,rfl,rfl,k⟩
  ·exists _,rfl,v,false,rfl,.inr ⟨rfl,hb⟩,_,rfl;refine BZ ?_;exact k
theorem Ga (h_isinstance:mg "isinstance"=none) (h_len:mg "len"=none) (h_tuple:mg "tuple"=none) {fI:Addr} {fdI:FuncData} (XI:Fn K mg "is_name" Di ["thing"] fI fdI) (GI:A8 P w K mg base Bt 1 fI fdI ["thing"] (KS K)) {f:Addr} {fd:FuncData} (F:Dm K "is_row_of" "is_row_of" DB f fd):A8 P w K mg base Bt 2 f fd ["row","place"] (QW K):=by
 refine F.ok FT (fun vs H Q E h=>?_) (fun cdv A outer s H vs Q E hr h=>?_)
 ·obtain ⟨v,y,b,rfl,_⟩:=h;rfl
 ·obtain ⟨v,y,b,rfl,hb,k⟩:=h;have nd:=FT.nd;have big:100000 < sizeLine:=by decide
  exists _,(Al (A4 (C1 (Ak BF (by rfl) h_isinstance PyProof.Rows.boot_isinstance (Aa (pv 0) (Aa (Dd (v:=.ty "tuple") (by rfl) h_tuple PyProof.Rows.boot_tuple rfl) Ac))) (C1 (Ct Hu (Ak AI (by rfl) h_len PySem.boot_len (Aa (pv 0) Ac)) Ag (Bx _)) (C1 (Am GI (hr.mono (by decide)) (by rfl) XI.mg XI.F.kp XI.b .nil Ax (Aa (Az F6 (pv 0) Ag (fun _ _=>rfl)) Ac)) (Dt (Ct Hu (Az F6 (pv 0) Ag (fun _ _=>rfl)) (pv 1) (Bx _))))))))
  rcases hb with ⟨rfl,ty,t1,t2⟩ | ⟨t,us,rfl,ht,hb⟩
  ·exists _,rfl,_,"tuple",_,_,rfl,t1,t2,_,rfl;refine BZ ?_;exact k _ (Aq.refl _)
  ·exists _,rfl,_,"tuple",_,_,rfl,.tup ht,rfl,_,rfl;refine De ?_;exists _,rfl,t,_,rfl,.inr (Ay.of ht),rfl,_,rfl;rcases hb with ⟨hl,rfl⟩ | ⟨a,p,rfl,hb⟩
   ·have e:decide (V.int (us.length:Int)=V.int 2)=false:=decide_eq_false fun z=>hl (by injection z with z; lia)
    rw [e];refine BZ ?_;exact k _ (Aq.refl _)
   ·refine De ?_;rcases hb with ⟨nS,rfl⟩ | ⟨s1,rfl,l1,rfl⟩
    ·refine ⟨_,rfl,t,_,_,_,rfl,rfl,Ay.of ht,rfl,_,rfl,.inr ⟨nS,⟨_,rfl,?_⟩⟩⟩;refine BZ ?_;exact k _ (Aq.refl _)
    ·refine ⟨_,rfl,t,_,_,_,rfl,rfl,Ay.of ht,rfl,_,rfl,.inl ⟨s1,rfl,l1,fun H1 q1=>⟨_,rfl,?_⟩⟩⟩;cases hn:Bm s1 with
     | false=>
      rw [hn] at k;refine BZ ?_;exact k _ q1
     | true=>
      rw [hn] at k;refine De ?_;exists _,rfl,t,_,_,_,rfl,rfl,Ay.of (q1 _ _ ht),rfl,_,rfl,rfl;have e:decide (V.str s1=V.str y)=(true && decide (s1=y)):=by
       by_cases z:s1=y
       ·subst z; simp
       ·rw [decide_eq_false z,decide_eq_false fun e=>z (by injection e)]; rfl
      rw [e];exact k _ q1
theorem Hx (h_all:mg "all"=none) (h_isinstance:mg "isinstance"=none) (h_len:mg "len"=none) (h_tuple:mg "tuple"=none) (h_zip:mg "zip"=none) {fR:Addr} {fdR:FuncData} (XR:Fn K mg "is_row_of" DB ["row","place"] fR fdR) (GR:A8 P w K mg base Bt 2 fR fdR ["row","place"] (QW K)) {f:Addr} {fd:FuncData} (F:Dm K "are_rows" "are_rows" En f fd):A8 P w K mg base Bt 3 f fd ["thing","places"] (Om K):=by
 refine F.ok Ho (fun vs H Q E h=>?_) (fun cdv A outer s H vs Q E hr h=>?_)
 ·obtain ⟨v,L,ys,b,rfl,_⟩:=h;rfl
 ·obtain ⟨v,L,ys,b,rfl,hL,l100,hb,k⟩:=h;have nd:=Ho.nd;have big:100000 < sizeLine:=by decide
  refine ⟨_,(Af (Cr (Hr (DJ (EI (Ak BF (by rfl) h_isinstance PyProof.Rows.boot_isinstance (Aa (pv 0) (Aa (Dd (v:=.ty "tuple") (by rfl) h_tuple PyProof.Rows.boot_tuple rfl) Ac))))) (EH (By R7 (Ak AI (by rfl) h_len PySem.boot_len (Aa (pv 0) Ac)) (Ak AI (by rfl) h_len PySem.boot_len (Aa (pv 1) Ac)) (Bx _)))).pt
  (Al (A4 E4))
  Bo)
  (Al (A4 (Ak (BO rfl) (by rfl) h_all PyProof.Rows.boot_all (Aa (AS (N:=["row","place"]) (σ0:=fun _=>[none,none]) rfl (AD.plain (by decide +kernel) (by decide +kernel) rfl (by decide +kernel)) (fun σ _=>Ba.none _ _ _ ["row","place"] σ) (O6 false (by rfl) h_zip (Aa (pv 0) (Aa (pv 1) Ac)))
   (fun s2 H C fp=>⟨(AO K rfl (n:=2) rfl (Aj (Ai (i:=0) (show (["row","place"]:List Str).Nodup by decide +kernel) rfl (Or.inl rfl)) (Aj (Ai (i:=1) (show (["row","place"]:List Str).Nodup by decide +kernel) rfl (Or.inl rfl)) AN))),AQ,(Am GR (hr.mono (by decide)) (by rfl) XR.mg XR.F.kp XR.b .nil Ax (Aa (pv 0) (Aa (pv 1) Ac)))⟩)) Ac))))),?_⟩
  rcases hb with ⟨rfl,ty,t1,t2⟩ | ⟨t,us,rfl,ht,hb⟩
  ·exists _,rfl,_,"tuple",_,_,rfl,t1,t2,_,rfl;exact k _ (Aq.refl _)
  ·exists _,rfl,_,"tuple",_,_,rfl,.tup ht,rfl,_,rfl;refine BZ ?_;exists _,rfl,t,_,rfl,.inr (Ay.of ht),_,rfl,L,_,rfl,.inl (AZ.of hL),rfl,_,rfl;rcases hb with ⟨hl,rfl⟩ | ⟨hl,bs,bl,rfl,hrw⟩
   ·have el:(!decide (V.int (us.length:Int)=V.int ((ys.map V.str).length:Int)))=true:=by
     rw [ZA,decide_eq_false fun z=>hl (by injection z with z; lia)];rfl
    rw [el];refine De ?_;exact k _ (Aq.refl _)
   ·have el:(!decide (V.int (us.length:Int)=V.int ((ys.map V.str).length:Int)))=false:=by rw [ZA,hl]; simp
    rw [el];refine BZ ?_;exists _,rfl,_,rfl,t,L,rfl,⟨_,Ay.of ht⟩,⟨_,AZ.of hL⟩
    refine Px (bb:=false) (xs:=us) (ys:=ys.map V.str) (by rw [ZA]; exact hl) (fun D i Aw H' acc=>∃ v0 v1:Option V,Aw=[v0,v1]/\Aq H H'/\H' D=some (.lst acc)/\acc=(bs.take i).map V.bl/\acc.length=i)
     (by lia) (fun D hD=>⟨_,_,rfl,Ad hD,Ab,rfl,rfl⟩) (fun D i Aw H' acc hD ⟨v0,v1,_,sa,AK,_,al⟩=>⟨Ay.of (sa _ _ ht),AZ.of (sa _ _ hL),AK,al⟩) ?_ ?_
    ·rintro D i Aw H' acc x' y' T B hD ex ey hT ⟨v0,v1,rfl,sa,AK,ea,al⟩ hB;have il:i < us.length:=(ZN.mp ex).1;have ec:bs[i]? = some (bs[i]'(by lia)):=Z9 (by lia);have ey':ys[i]? = some (ys[i]'(by lia)):=Z9 (by lia);rw [ZL,ey'] at ey;cases ey
     have q1:=Ad (o:=.tup [x',.str (ys[i]'(by lia))]) hT;have Zt:(upd H' T (.tup [x',.str (ys[i]'(by lia))])) T=some (.tup [x',.str (ys[i]'(by lia))]):=Ab;exists T,_,rfl,Ay.of Zt,rfl,_,_,rfl,_,_,rfl,rfl;refine ⟨_,rfl,_,rfl,x',ys[i]'(by lia),bs[i]'(by lia),rfl,((hrw i _ _ _ ex ey' ec).same sa).same q1,fun H5 s5=>?_⟩;have q5:=q1.trans s5;refine hB _ _ _ (q5 _ _ AK) ⟨_,_,rfl,fun b o e=>by rw [Ae (Ah e hD)]; exact q5 _ _ (sa _ _ e),Ab,?_,by rw [ZH,al]; rfl⟩;rw [ea,ZR,ec,ZG];rfl
    ·rintro D Aw H' acc hD ⟨v0,v1,rfl,sa,AK,ea,al⟩;rw [<-bl,ZY] at ea;exact ⟨D,_,rfl,AZ.of (by rw [AK,ea]),k _ sa⟩
theorem DY  {fA:Addr} {fdA:FuncData} (XA:Fn K mg "are_rows" En ["thing","places"] fA fdA) (GA:A8 P w K mg base Bt 3 fA fdA ["thing","places"] (Om K)) {f:Addr} {fd:FuncData} (F:Dm K "are_folk_rows" "are_folk_rows" BL f fd):A8 P w K mg base Bt 4 f fd ["case","thing"] (KW K):=by
 refine F.ok DU (fun vs H Q E h=>?_) (fun cdv A outer s H vs Q E hr h=>?_)
 ·obtain ⟨c,m,n,xs,ws,Ap,Ar,x,d,v,b,rfl,_⟩:=h;rfl
 ·obtain ⟨c,m,n,xs,ws,Ap,Ar,x,d,v,b,rfl,cw,hb,k⟩:=h;have nd:=DU.nd;have big:100000 < sizeLine:=by decide
  refine ⟨_,(Al (A4 (Am GA (hr.mono (by decide)) (by rfl) XA.mg XA.F.kp XA.b .nil Ax (Aa (pv 1) (Aa (AS (N:=["place","many"]) (σ0:=fun _=>[none,none]) rfl (AD.plain (by decide +kernel) (by decide +kernel) rfl (by decide +kernel)) (fun σ _=>Ba.none _ _ _ ["place","many"] σ) (G3 (Az F6 (pv 0) Ag (fun _ _=>rfl)))
   (fun s2 H C fp=>⟨(AO K rfl (n:=2) rfl (Aj (Ai (i:=0) (show (["place","many"]:List Str).Nodup by decide +kernel) rfl (Or.inl rfl)) (Aj (Ai (i:=1) (show (["place","many"]:List Str).Nodup by decide +kernel) rfl (Or.inl rfl)) AN))),AQ,(pv 0)⟩)) Ac))))),?_⟩
  obtain ⟨t1,t2,D3,EX,hc,Eb,Et,DM,hd2⟩:=cw.ex;have ul:=A3 hd2;have l2:=cw.l2;exists _,rfl,_,rfl,c,_,_,_,rfl,rfl,Ay.of hc,rfl,t2,rfl,⟨_,Ay.of DM⟩
  refine AX Be (xs:=EX) (fun D i Aw H' acc=>∃ v0 v1:Option V,Aw=[v0,v1]/\Aq H H'/\H' D=some (.lst acc)/\acc=((Ar.map (·.1)).take i).map V.str/\acc.length=i)
   (by lia) (fun D hD=>⟨_,_,rfl,Ad hD,Ab,rfl,rfl⟩) (fun D i Aw H' acc hD ⟨v0,v1,_,sa,AK,_,al⟩=>⟨Ay.of (sa _ _ DM),AK,al⟩) ?_ ?_
  ·rintro D i Aw H' acc x' B hD ex ⟨v0,v1,rfl,sa,AK,ea,al⟩ hB;obtain ⟨q,tt,eq,rfl,htt⟩:=Bb hd2 ex;exists tt,_,rfl,Ay.of (sa _ _ htt),rfl,_,_,rfl,_,_,rfl,rfl;refine ⟨_,rfl,hB _ _ _ AK ⟨_,_,rfl,fun b o e=>by rw [Ae (Ah e hD)]; exact sa _ _ e,Ab,?_,by rw [ZH,al]; rfl⟩⟩;rw [ea,ZR,ZL,eq,ZG];rfl
  ·rintro D Aw H' acc hD ⟨v0,v1,rfl,sa,AK,ea,al⟩;refine ⟨v,D,Ar.map (·.1),b,rfl,?_,by rw [ZA]; lia,hb.same sa,fun H2 s2=>k _ (sa.trans s2)⟩;have e:EX.length=(Ar.map (·.1)).length:=by rw [ZA]; exact ul
   rw [AK,ea,e,ZY]
theorem JO (h_all:mg "all"=none) {fO:Addr} {fdO:FuncData} (XO:Fn K mg "are_folk_rows" BL ["case","thing"] fO fdO) (GO:A8 P w K mg base Bt 4 fO fdO ["case","thing"] (KW K)) {fF:Addr} {fdF:FuncData} (XF:Fn K mg "is_whole_from" BK ["thing","least"] fF fdF) (GF:A8 P w K mg base Bt 2 fF fdF ["thing","least"] (Gy K)) {f:Addr} {fd:FuncData} (F:Dm K "are_prices" "are_prices" CW f fd):A8 P w K mg base Bt 5 f fd ["case","thing"] (TV K):=by
 refine F.ok Fv (fun vs H Q E h=>?_) (fun cdv A outer s H vs Q E hr h=>?_)
 ·obtain ⟨c,m,n,xs,ws,Ap,Ar,x,d,v,b,rfl,_⟩:=h;rfl
 ·obtain ⟨c,m,n,xs,ws,Ap,Ar,x,d,v,b,rfl,cw,hb,k⟩:=h;have nd:=Fv.nd;have big:100000 < sizeLine:=by decide
  refine ⟨_,(Al (A4 (C1 (Am GO (hr.mono (by decide)) (by rfl) XO.mg XO.F.kp XO.b .nil Ax (Aa (pv 0) (Aa (pv 1) Ac))) (Dt (Ak (BO rfl) (by rfl) h_all PyProof.Rows.boot_all (Aa (AS (N:=["place","price"]) (σ0:=fun _=>[none,none]) rfl (AD.plain (by decide +kernel) (by decide +kernel) rfl (by decide +kernel)) (fun σ _=>Ba.none _ _ _ ["place","price"] σ) (G3 (pv 1))
   (fun s2 H C fp=>⟨(AO K rfl (n:=2) rfl (Aj (Ai (i:=0) (show (["place","price"]:List Str).Nodup by decide +kernel) rfl (Or.inl rfl)) (Aj (Ai (i:=1) (show (["place","price"]:List Str).Nodup by decide +kernel) rfl (Or.inl rfl)) AN))),AQ,(Am GF (hr.mono (by decide)) (by rfl) XF.mg XF.F.kp XF.b .nil Ax (Aa (pv 1) (Aa Ag Ac)))⟩)) Ac)))))),?_⟩
  rcases hb with ⟨rfl,hb⟩ | ⟨t,us,rfl,ht,hl,bs,bl,rfl,hrw⟩
  ·refine ⟨_,rfl,_,rfl,c,m,n,xs,ws,Ap,Ar,x,d,v,false,rfl,cw,hb,fun H1 s1=>⟨_,rfl,?_⟩⟩;refine BZ ?_;exact k _ s1
  ·have l2:=cw.l2;rw [ZA] at hl;have rows:ET K H (.ref t) (Ar.map (·.1)) true:=.inr ⟨t,us,rfl,ht,.inr ⟨by rw [ZA]; exact hl,us.map fun _=>true,by rw [ZA],by rw [bu]; exact (aG.mpr fun _ _=>rfl).symm,fun i u y c' a1 a2 a3=>by
    have il:i < us.length:=(ZN.mp a1).1;obtain ⟨tt,p,rfl,htt,_⟩:=hrw i u y (bs[i]'(by lia)) a1 a2 (Z9 (by lia));rw [ZL,a1] at a3;cases a3
    rw [ZL] at a2;cases er:Ar[i]? with
    | none=>rw [er] at a2; cases a2
    | some r=>
     rw [er] at a2;cases a2
     exact Fz.right (cw.map.at'.nm _ (cw.ok2.sub r (ZE er))) htt⟩⟩
   refine ⟨_,rfl,_,rfl,c,m,n,xs,ws,Ap,Ar,x,d,.ref t,true,rfl,cw,rows,fun H1 s1=>⟨_,rfl,?_⟩⟩;refine De ?_;exists _,rfl,t,rfl,⟨_,Ay.of (s1 _ _ ht)⟩
   refine AX Be (xs:=us) (fun D i Aw H' acc=>∃ v0 v1:Option V,Aw=[v0,v1]/\Aq H1 H'/\H' D=some (.lst acc)/\acc=(bs.take i).map V.bl/\acc.length=i)
    (by lia) (fun D hD=>⟨_,_,rfl,Ad hD,Ab,rfl,rfl⟩) (fun D i Aw H' acc hD ⟨v0,v1,_,sa,AK,_,al⟩=>⟨Ay.of (sa _ _ (s1 _ _ ht)),AK,al⟩) ?_ ?_
   ·rintro D i Aw H' acc x' B hD ex ⟨v0,v1,rfl,sa,AK,ea,al⟩ hB;have il:i < us.length:=(ZN.mp ex).1;have ec:bs[i]? = some (bs[i]'(by lia)):=Z9 (by lia);obtain ⟨tt,p,rfl,htt,np⟩:=hrw i x' ((Ar[i]'(by lia)).1) (bs[i]'(by lia)) ex (by rw [ZL,Z9 (by lia)]; rfl) ec;exists tt,_,rfl,Ay.of (sa _ _ (s1 _ _ htt)),rfl,_,_,rfl,_,_,rfl,rfl;refine ⟨_,rfl,p,0,bs[i]'(by lia),rfl,(np.same s1).same sa,hB _ _ _ AK ⟨_,_,rfl,fun b o e=>by rw [Ae (Ah e hD)]; exact sa _ _ e,Ab,?_,by rw [ZH,al]; rfl⟩⟩;rw [ea,ZR,ec,ZG];rfl
   ·rintro D Aw H' acc hD ⟨v0,v1,rfl,sa,AK,ea,al⟩;rw [<-bl,ZY] at ea;exact ⟨D,_,rfl,AZ.of (by rw [AK,ea]),k _ (s1.trans sa)⟩
theorem N3  {fF:Addr} {fdF:FuncData} (XF:Fn K mg "is_whole_from" BK ["thing","least"] fF fdF) (GF:A8 P w K mg base Bt 2 fF fdF ["thing","least"] (Gy K)) {f:Addr} {fd:FuncData} (F:Dm K "is_levy" "is_levy" Ff f fd):A8 P w K mg base Bt 3 f fd ["case","thing"] (Oo K):=by
 refine F.ok IJ (fun vs H Q E h=>?_) (fun cdv A outer s H vs Q E hr h=>?_)
 ·obtain ⟨c,m,n,xs,ws,Ap,Ar,x,d,v,b,rfl,_⟩:=h;rfl
 ·obtain ⟨c,m,n,xs,ws,Ap,Ar,x,d,v,b,rfl,cw,hb,k⟩:=h;have nd:=IJ.nd;have big:100000 < sizeLine:=by decide
  exists _,(Al (A4 (C1 (Am GF (hr.mono (by decide)) (by rfl) XF.mg XF.F.kp XF.b .nil Ax (Aa (pv 1) (Aa Ag Ac))) (Dt (pe_or (IU (Ih (Az F6 (pv 0) Ag (fun _ _=>rfl)))) (Dt (Ct Hu (pv 1) Ag (Bx _))))))))
  obtain ⟨t1,t2,D3,EX,hc,Eb,Et,DM,hd2⟩:=cw.ex;rcases hb with ⟨rfl,hb⟩ | ⟨lv,rfl,l0,rfl⟩
  ·exists _,rfl,v,0,false,rfl,hb,_,rfl;refine BZ ?_;exact k
  ·exists _,rfl,.int lv,0,true,rfl,.inl ⟨lv,rfl,(decide_eq_true l0).symm⟩,_,rfl;refine De ?_;exists _,rfl,c,_,_,_,rfl,rfl,Ay.of hc,rfl,_,rfl;rcases cw.lim with ⟨rfl,_⟩ | ⟨j,rfl,_⟩
   ·refine BZ ?_;exists _,rfl,rfl;have e:decide (V.int lv=V.int 0)=(!decide (V.non=V.non) || decide (lv=0)):=by
     rw [decide_eq_true (rfl:V.non=V.non)];by_cases z:lv=0
     ·subst z; simp
     ·rw [decide_eq_false z,decide_eq_false fun e=>z (by injection e)]; rfl
    rw [e];exact k
   ·refine De ?_;have e:(!decide (V.int j=V.non) || decide (lv=0))=true:=by
     have ne:¬ V.int j=V.non:=by intro e; cases e
     rw [decide_eq_false ne];rfl
    rw [e] at k;exact k
theorem R8  {fP:Addr} {fdP:FuncData} (XP:Fn K mg "are_prices" CW ["case","thing"] fP fdP) (GP:A8 P w K mg base Bt 5 fP fdP ["case","thing"] (TV K)) {fL:Addr} {fdL:FuncData} (XL:Fn K mg "is_levy" Ff ["case","thing"] fL fdL) (GL:A8 P w K mg base Bt 3 fL fdL ["case","thing"] (Oo K)) {fSF:Addr} {fdSF:FuncData} (XSF:Fn K mg "site_fars" CC ["case"] fSF fdSF) (GSF:A8 P w K mg base Bt 4 fSF fdSF ["case"] F2) {fB:Addr} {fdB:FuncData} (XB:Fn K mg "stand_by" Eh ["case","aways","prices","levy"] fB fdB) (GB:A8 P w K mg base Bt 2 fB fdB ["case","aways","prices","levy"] Kf) {f:Addr} {fd:FuncData} (F:Dm K "stand" "stand" Ic f fd):A8 P w K mg base Bt 6 f fd ["case","prices","levy"] (LS K):=by
 refine F.ok Mb (fun vs H Q E h=>?_) (fun cdv A outer s H vs Q E hr h=>?_)
 ·obtain ⟨c,m,n,xs,ws,Ap,Ar,x,d,v,l,rfl,_⟩:=h;rfl
 ·obtain ⟨c,m,n,xs,ws,Ap,Ar,x,d,v,l,rfl,cw,k⟩:=h;have nd:=Mb.nd;have big:100000 < sizeLine:=by decide
  refine ⟨_,(Af (Cr (Hr (DJ (EI (Am GP (hr.mono (by decide)) (by rfl) XP.mg XP.F.kp XP.b .nil Ax (Aa (pv 0) (Aa (pv 1) Ac))))) (EH (DJ (EI (Am GL (hr.mono (by decide)) (by rfl) XL.mg XL.F.kp XL.b .nil Ax (Aa (pv 0) (Aa (pv 2) Ac))))))).pt
  (Al (A4 E4))
  Bo)
  (Al (A4 (Am GB (hr.mono (by decide)) (by rfl) XB.mg XB.F.kp XB.b .nil Ax (Aa (pv 0) (Aa (Am GSF (hr.mono (by decide)) (by rfl) XSF.mg XSF.F.kp XSF.b .nil Ax (Aa (pv 0) Ac)) (Aa (pv 1) (Aa (pv 2) Ac)))))))),?_⟩
  rcases k with ⟨hb,k⟩ | ⟨t,qs,rfl,cp,k⟩
  ·refine ⟨_,rfl,_,rfl,c,m,n,xs,ws,Ap,Ar,x,d,v,false,rfl,cw,hb,fun H1 s1=>⟨_,rfl,?_⟩⟩;exact k _ s1
  ·refine ⟨_,rfl,_,rfl,c,m,n,xs,ws,Ap,Ar,x,d,.ref t,true,rfl,cw,cp.prices,fun H1 s1=>⟨_,rfl,?_⟩⟩;refine BZ ?_;rcases k with ⟨hb,k⟩ | ⟨lv,rfl,hb,k⟩
   ·exists _,rfl,_,rfl,c,m,n,xs,ws,Ap,Ar,x,d,l,false,rfl,cw.same s1,hb.same s1,_,rfl;exact k _ s1
   ·exists _,rfl,_,rfl,c,m,n,xs,ws,Ap,Ar,x,d,.int lv,true,rfl,cw.same s1,hb.same s1,_,rfl;refine BZ ?_;refine ⟨_,rfl,_,rfl,c,m,n,xs,ws,Ap,Ar,x,d,rfl,cw.same s1,fun H2 D nv s2 hD AK ks fs=>?_⟩;have Km:=s1.trans s2;exact ⟨_,rfl,_,rfl,c,m,t,D,n,xs,ws,Ap,Ar,qs,x,d,lv,rfl,cp.same Km,⟨nv,AK,ks,fs⟩,fun H3 s3=>k _ (Km.trans s3)⟩
end
section
variable {P:Program} {w:World} {K:ZD} {mg:Str->Option Value} {base:Heap}
theorem Mu (h_min:mg "min"=none) (h_sum:mg "sum"=none) {f:Addr} {fd:FuncData} (F:Dm K "_law_cost" "_law_cost" Ek f fd):A8 P w K mg base Bt 1 f fd ["_law_case_here","_law_away","_law_opening"] Ow:=by
 refine F.ok Hl (fun vs H Q E h=>?_) (fun cdv A outer s H vs Q E hr h=>?_)
 ·obtain ⟨c,m,A0,o,n,xs,ws,Ap,Ar,x,d,ss,rfl,_⟩:=h;rfl
 ·obtain ⟨c,m,A0,o,n,xs,ws,Ap,Ar,x,d,ss,rfl,cw,few,kn,ho,X6,MU,k⟩:=h;have nd:=Hl.nd;have hu:=CN hr;have big:100000 < sizeLine:=by decide
  refine ⟨_,(Af (Ao (i:=3) nd rfl (Or.inl rfl) (Ak (B6 rfl) (by rfl) h_sum PyProof.Rows.boot_sum (Aa (AS (N:=["_law_place","_law_dues","_law_opening"]) (σ0:=fun σ=>[none,none,some 2].map fun j=>j.bind fun j=>(σ[j]?).join) rfl (AD.caught (by rfl) (by decide +kernel) rfl (by decide +kernel) (by intro y hy; simp only [ZF,ZI,or_false] at hy; rcases hy with rfl <;> rfl)
   (by intro y hy e; simp only [ZF,ZI,or_false] at hy; rcases hy with rfl | rfl | rfl | rfl <;> first | exact ⟨_,rfl⟩ | cases e)) (fun σ _=>Ba.of [none,none,some 2] rfl (by
   intro i j x h1 h2;match i,h1,h2 with
   | 0,_,h2=>cases h2
   | 1,_,h2=>cases h2
   | 2,h1,h2=>cases h1; cases h2; exact ⟨rfl,.inl rfl,.inl rfl⟩
   | n + 3,h1,_=>cases h1)) (AR K rfl (Az (A7 K rfl) (pv 0) Ag (fun _ _=>rfl)))
   (fun s2 H C fp=>⟨(AO K rfl (n:=2) rfl (Aj (Ai (i:=0) (show (["_law_place","_law_dues","_law_opening"]:List Str).Nodup by decide +kernel) rfl (Or.inl rfl)) (Aj (Ai (i:=1) (show (["_law_place","_law_dues","_law_opening"]:List Str).Nodup by decide +kernel) rfl (Or.inl rfl)) AN))),(Ig (By (Nx K rfl) (pv 0) (pv 2) (by rfl))),(pv 1)⟩)) Ac)))
  (Af (BC PassesOwn.never rfl (AR K rfl (Az (A7 K rfl) (pv 0) Ag (fun _ _=>rfl))) (AO K rfl rfl (Aj (Ai (i:=4) nd rfl (Or.inr rfl)) (Aj (Ai (i:=5) nd rfl (Or.inl rfl)) AN)))
  (Al (Ao (i:=3) nd rfl (Or.inl rfl) (As Bg (pv 3) (As BG (pv 5) (Ak (Fy rfl) (by rfl) h_min PyProof.Rows.boot_min (Aa (AS (N:=["_law_house","_law_away","_law_place"]) (σ0:=fun σ=>[none,some 1,some 4].map fun j=>j.bind fun j=>(σ[j]?).join) rfl (AD.caught (by rfl) (by decide +kernel) rfl (by decide +kernel) (by intro y hy; simp only [ZF,ZI,or_false] at hy; rcases hy with rfl | rfl <;> rfl)
   (by intro y hy e; simp only [ZF,ZI,or_false] at hy; rcases hy with rfl | rfl | rfl | rfl <;> first | exact ⟨_,rfl⟩ | cases e)) (fun σ _=>Ba.of [none,some 1,some 4] rfl (by
   intro i j x h1 h2;match i,h1,h2 with
   | 0,_,h2=>cases h2
   | 1,h1,h2=>cases h1; cases h2; exact ⟨rfl,.inl rfl,.inl rfl⟩
   | 2,h1,h2=>cases h1; cases h2; exact ⟨rfl,.inl rfl,.inl rfl⟩
   | n + 3,h1,_=>cases h1)) (AR K rfl (pv 2))
   (fun s2 H C fp=>⟨(Ai (i:=0) (show (["_law_house","_law_away","_law_place"]:List Str).Nodup by decide +kernel) rfl (Or.inl rfl)),AQ,(AW hu (pv 1) (AH (Aa (pv 2) (Aa (pv 0) Ac))) (fun _ _=>rfl))⟩)) Ac)))))))
  (Al (A4 (pv 3))))),?_⟩
  obtain ⟨t1,t2,D3,EX,hc,Eb,Et,DM,hd2⟩:=cw.ex;have OX:=A3 Et;have MT:=A3 hd2;have l1:=cw.l1;have l2:=cw.l2;have ssx:∀ s ∈ ss,s ∈ xs:=fun s hs=>by
   obtain ⟨r,hr,e⟩:=ZO.mp (X6.2.2 s hs);have e':r.1=s:=e;rw [<-e'];exact cw.ok1.sub r hr
  exists _,rfl,c,_,_,_,rfl,rfl,Ay.of hc,rfl,t1,rfl,⟨_,Ay.of Eb⟩
  refine DF Be (xs:=D3) (fun D i σ H' acc=>∃ v0 v1:Option V,σ=[v0,v1,some (.ref o)]/\Aq H H'/\H' D=some (.lst acc)/\acc=(((Ap.take i).filter fun r=>decide (r.1 ∈ ss)).map (·.2)).map V.int/\acc.length<=i)
   (by lia) (fun D hD=>⟨_,_,rfl,Ad hD,Ab,rfl,ZJ _⟩)
   (fun D i σ H' acc hD ⟨v0,v1,_,sa,AK,_,al⟩=>⟨Ay.of (sa _ _ Eb),AK,al⟩) ?_ ?_
  ·rintro D i σ H' acc x' B N hD ex ⟨v0,v1,rfl,sa,AK,ea,al⟩ hB hN;obtain ⟨u,t,eu,rfl,ht⟩:=Bb Et ex;exists t,_,rfl,Ay.of (sa _ _ ht),rfl,_,_,rfl,_,_,rfl,rfl;exists _,rfl,_,rfl,o,_,rfl,.inr (Ay.of (sa _ _ ho)),rfl,GY ss,_,rfl;rw [Jm];refine CL (fun hz=>?_) (fun hz=>?_)
   ·have MW:u.1 ∈ ss:=by simpa using hz
    exists _,rfl;refine hB _ _ _ AK ⟨_,_,rfl,fun b o' z=>by rw [Ae (Ah z hD)]; exact sa _ _ z,Ab,?_,by rw [ZH]; simp; lia⟩;rw [ea,ZR,eu,bx,ZG,ZG];simp [MW]
   ·have MW:¬ u.1 ∈ ss:=by simpa using hz
    refine hN _ _ ⟨_,_,rfl,sa,AK,?_,by lia⟩;rw [ea,ZR,eu,bx,ZG,ZG];simp [MW]
  rintro D σ H1 acc hD ⟨v0,v1,rfl,s1,AK,ea,al⟩;rw [OX,ZY] at ea;exists D,_,rfl,AZ.of (by rw [AK,ea]);rw [Kd cw.ok1.nd X6.2.1 X6.2.2];refine ⟨_,rfl,c,_,_,_,rfl,rfl,Ay.of (s1 _ _ hc),rfl,t2,rfl,⟨_,Ay.of (s1 _ _ DM)⟩,Cb (xs:=EX) (fun i σ H'=>∃ (v4 v5:Option V) (ds:List Int),σ=[some (.ref c),some (.ref A0),some (.ref o),some (.int ((ss.map (BI Ap)).sum + BW (Ar.take i) ds)),v4,v5]/\Aq H H'/\ds.length=i/\∀ (j:Nat) r d,Ar[j]? = some r->ds[j]? = some d->Md ws ss r.1 d)
   ⟨_,_,[],by have e:BW (Ar.take 0) []=0:=(by rw [cP]; rfl); rw [e,cI]; rfl,s1,rfl,fun j r d _ e=>(by cases e)⟩ (fun i σ H' _ ⟨_,_,_,_,sa,_⟩=>Ay.of (sa _ _ DM)) (fun i v σ H' hv hP rt bk N hN=>?_) (fun σ H' hP=>?_)⟩
  ·obtain ⟨v4,v5,ds,rfl,sa,dl,md⟩:=hP;obtain ⟨r,tt,er,rfl,htt⟩:=Bb hd2 hv;have rm:=ZE er;have rx:=cw.ok2.sub r rm;have r4:=few r rm;have r1:=(cw.ok2.lo r rm).1;exists tt,_,rfl,Ay.of (sa _ _ htt),rfl,_,_,rfl,_,_,rfl,rfl;exists _,rfl,_,rfl,_,rfl,o,rfl,⟨_,Ay.of (sa _ _ ho)⟩
   refine AX Be (xs:=ss.map V.str) (fun D i Aw H2 acc=>∃ v0:Option V,Aw=[v0,some (.ref A0),some (.str r.1)]/\Aq H' H2/\H2 D=some (.lst acc)/\acc=((ss.take i).map fun s=>dst ws s r.1).map V.int/\acc.length=i)
    (by rw [ZA]; lia) (fun D hD=>⟨_,rfl,Ad hD,Ab,rfl,rfl⟩) (fun D i Aw H2 acc hD ⟨v0,_,sb,AK,_,al⟩=>⟨Ay.of (sb _ _ (sa _ _ ho)),AK,al⟩) ?_ ?_
   ·rintro D j Aw H2 acc x' B hD LF ⟨v0,rfl,sb,AK,ea,al⟩ hB;obtain ⟨s,es,rfl⟩:∃ s,ss[j]? = some s/\x'=.str s:=by
     rw [ZL] at LF;cases z:ss[j]? with
     | none=>rw [z] at LF; cases LF
     | some s=>rw [z] at LF; exact ⟨s,rfl,(ZZ.inj LF).symm⟩
    refine ⟨_,rfl,_,rfl,_,rfl,(by show 2<=sizeLine; lia),fun T hT=>?_⟩;have q2:=Ad (o:=.tup [.str r.1,.str s]) hT;have K1:(upd H2 T (.tup [.str r.1,.str s])) T=some (.tup [.str r.1,.str s]):=Ab;generalize upd H2 T (.tup [.str r.1,.str s])=H3 at q2 K1 ⊢;obtain ⟨g2,_,_⟩:=(((kn.same sa).same sb).same q2).get rx (ssx s (ZE es)) K1;exists A0,_,rfl,g2;refine hB _ _ _ (q2 _ _ AK) ⟨_,rfl,fun b o e=>by rw [Ae (Ah e hD)]; exact q2 _ _ (sb _ _ e),Ab,?_,by rw [ZH,al]; rfl⟩;rw [ea,ZR,es,ZG,ZG];rfl
   ·rintro D Aw H2 acc hD ⟨v0,rfl,sb,AK,ea,al⟩;rw [ZA,ZY] at ea;refine ⟨D,ss.map fun s=>dst ws s r.1,rfl,by rw [AK,ea],by rw [Ne,List.map_eq_nil_iff]; exact X6.1,fun mn hm hle=>?_⟩;exists _,_,rfl,rfl,.inl ⟨by lia,by lia⟩,_,_,rfl,rfl;obtain ⟨s,hs,es⟩:=ZO.mp hm;have kd:=kn.dst (ssx s hs) rx;refine hN _ _ ⟨some (.str r.1),some (.int r.2),ds ++ [mn],?_,sa.trans sb,by rw [ZH,dl]; rfl,fun j r' d' e1 e2=>?_⟩
    ·rw [Mz er dl,<-cy];rfl
    ·by_cases ej:j < ds.length
     ·rw [aF ej] at e2;exact md j r' d' e1 e2
     ·rw [ay (by lia)] at e2;have hj:j=i:=by
       have:=(ZN.mp e2).1;simp at this;lia
      subst hj;rw [er] at e1;cases e1
      rw [dl,di] at e2;cases e2
      refine ⟨⟨s,hs,by rw [<-es]; exact kd.1⟩,fun s' Q4 m' g=>?_⟩;have a1:=hle _ (ZO.mpr ⟨s',Q4,rfl⟩);have a2:=(kn.dst (ssx s' Q4) rx).2 m' g;exact eA a1 a2
  ·obtain ⟨v4,v5,ds,rfl,sa,dl,md⟩:=hP;rw [MT,ZY];exact ⟨_,rfl,k H' _ sa ⟨ds,⟨by lia,md⟩,rfl⟩⟩
end
section
variable {P:Program} {w:World} {K:ZD} {mg:Str->Option Value} {base:Heap}
theorem HQ (h_int:mg "int"=none) (h_len:mg "len"=none) (h_sorted:mg "sorted"=none) {f:Addr} {fd:FuncData} (F:Dm K "_law_openings" "_law_openings" Cq f fd):A8 P w K mg base Bt 1 f fd ["_law_case_here"] TY:=by
 refine F.ok E3 (fun vs H Q E h=>?_) (fun cdv A outer s H vs Q E hr h=>?_)
 ·obtain ⟨c,sites,x,d,rfl,_⟩:=h;rfl
 ·obtain ⟨c,sites,x,d,rfl,cs,k⟩:=h;have nd:=E3.nd;have big:100000 < sizeLine:=by decide
  refine ⟨_,(Af (Ao (i:=1) nd rfl (Or.inl rfl) (Bw (Aa (AH Ac) Ac)))
  (Af (BC PassesOwn.never rfl (AR K rfl (Az (A7 K rfl) (pv 0) Ag (fun _ _=>rfl))) (AO K rfl rfl (Aj (Ai (i:=2) nd rfl (Or.inr rfl)) (Aj (Ai (i:=3) nd rfl (Or.inl rfl)) AN)))
  (Al (Ao (i:=1) nd rfl (Or.inl rfl) (As Vk (pv 1) (AS (N:=["_law_one","_law_place"]) (σ0:=fun σ=>[none,some 2].map fun j=>j.bind fun j=>(σ[j]?).join) rfl (AD.caught (by rfl) (by decide +kernel) rfl (by decide +kernel) (by intro y hy; simp only [ZF,ZI,or_false] at hy; rcases hy with rfl <;> rfl)
   (by intro y hy e; simp only [ZF,ZI,or_false] at hy; rcases hy with rfl | rfl | rfl <;> first | exact ⟨_,rfl⟩ | cases e)) (fun σ _=>Ba.of [none,some 2] rfl (by
   intro i j x h1 h2;match i,h1,h2 with
   | 0,_,h2=>cases h2
   | 1,h1,h2=>cases h1; cases h2; exact ⟨rfl,.inl rfl,.inl rfl⟩
   | n + 2,h1,_=>cases h1)) (Fh (pv 1))
   (fun s2 H C fp=>⟨(Ai (i:=0) (show (["_law_one","_law_place"]:List Str).Nodup by decide +kernel) rfl (Or.inl rfl)),AQ,(As (Du K rfl) (pv 0) (AH (Aa (pv 1) Ac)))⟩))))))
  (Af (Ao (i:=4) nd rfl (Or.inr rfl) (Az Bf (Bw (Aa (Az (A7 K rfl) (pv 0) Ag (fun _ _=>rfl)) (Aa (Ak AI (by rfl) h_len PySem.boot_len (Aa (Az (A7 K rfl) (pv 0) Ag (fun _ _=>rfl)) Ac)) Ac))) (AA Dl (by rfl) h_int PyProof.Rows.boot_int (Aa (IU (G4 (Az (A7 K rfl) (pv 0) Ag (fun _ _=>rfl)))) Ac)) (fun _ _=>rfl)))
  (Al (A4 (Ak (FA K rfl) (by rfl) h_sorted PyProof.Rows.boot_sorted (Aa (AS (N:=["_law_one","_law_most"]) (σ0:=fun σ=>[none,some 4].map fun j=>j.bind fun j=>(σ[j]?).join) rfl (AD.caught (by rfl) (by decide +kernel) rfl (by decide +kernel) (by intro y hy; simp only [ZF,ZI,or_false] at hy; rcases hy with rfl <;> rfl)
   (by intro y hy e; simp only [ZF,ZI,or_false] at hy; rcases hy with rfl | rfl | rfl | rfl <;> first | exact ⟨_,rfl⟩ | cases e)) (fun σ _=>Ba.of [none,some 4] rfl (by
   intro i j x h1 h2;match i,h1,h2 with
   | 0,_,h2=>cases h2
   | 1,h1,h2=>cases h1; cases h2; exact ⟨rfl,.inl rfl,.inl rfl⟩
   | n + 2,h1,_=>cases h1)) (Fh (pv 1))
   (fun s2 H C fp=>⟨(Ai (i:=0) (show (["_law_one","_law_most"]:List Str).Nodup by decide +kernel) rfl (Or.inl rfl)),(Ig (IL O8 Ku Ag (Ak (B7 K rfl) (by rfl) h_len PySem.boot_len (Aa (pv 0) Ac)) (pv 1))),(pv 0)⟩)) Ac))))))),?_⟩
  obtain ⟨mV,t2V,t1,D3,Ap,hc,Eb,Et,rfl,snd,sl,lim⟩:=cs;have ul:=A3 Et;rw [ZA] at sl;refine ⟨(by show 0<=sizeLine; lia),fun T0 Zs=>⟨(by show 1<=sizeLine; lia),fun L0 Uu=>?_⟩⟩;have s0:=(Ad (o:=.tup []) Zs).trans (Ad (o:=.lst [.ref T0]) Uu);exists _,rfl,c,_,_,_,rfl,rfl,Ay.of (s0 _ _ hc),rfl,t1,rfl,⟨_,Ay.of (s0 _ _ Eb)⟩
  refine ME (xs:=D3) (fun i σ H'=>∃ (L:Addr) (us:List V) (fs:List (List Str)) (v2 v3 v4:Option V),σ=[some (.ref c),some (.ref L),v2,v3,v4]/\Aq H H'/\H' L=some (.lst us)/\BR H' us fs/\HL ((Ap.map (·.1)).take i) 100 fs/\fs.length<=2 ^ i)
   ⟨L0,[.ref T0],[[]],_,_,_,rfl,s0,Ab,.cons (by rw [Ae (by intro z; subst z; rw [Ab] at Uu; cases Uu)]; exact Ab) .nil,HL.nil (by decide),ZJ _⟩
   (fun i σ H' _ ⟨_,_,_,_,_,_,_,sa,_⟩=>Ay.of (sa _ _ Eb)) ?_ ?_
  ·rintro i xx σ H' ex ⟨L,us,fs,v2,v3,v4,rfl,sa,hL,tU,sub,fl⟩ rt bk;obtain ⟨u,t,eu,rfl,ht⟩:=Bb Et ex;have hi:i < Ap.length:=(ZN.mp eu).1;have f512:fs.length<=512:=aj fl (aj (eT (by decide) (show i<=9 by lia)) (by decide));have hul:=tU.len;have Xh:∀ f ∈ fs,f.length<=10:=fun f hf=>by
    have:=((sub.2 f).mp hf).1.length_le;rw [ah,ZA] at this;lia
   exists t,_,rfl,Ay.of (sa _ _ ht),rfl,_,_,rfl,_,_,rfl,rfl;exists _,rfl,_,rfl,L,rfl,⟨_,AZ.of hL⟩
   refine AX C2 (xs:=us) (fun D j Aw H2 acc=>∃ v0:Option V,Aw=[v0,some (.str u.1)]/\Aq H' H2/\H2 D=some (.lst acc)/\BR H2 acc ((fs.take j).map (· ++ [u.1]))/\acc.length=j)
    (by lia) (fun D hD=>⟨_,rfl,Ad hD,Ab,.nil,rfl⟩) (fun D j Aw H2 acc hD ⟨v0,_,sb,AK,_,al⟩=>⟨AZ.of (sb _ _ hL),AK,al⟩) ?_ ?_
   ·rintro D j Aw H2 acc x' B hD LF ⟨v0,rfl,sb,AK,tp,al⟩ hB;obtain ⟨tf,f,rfl,ef,htf⟩:=tU.get LF;have fm:=Xh f (ZE ef);refine ⟨_,rfl,_,rfl,(by show 1<=sizeLine; lia),fun T1 Tq=>?_⟩;have q1:=Ad (o:=.tup [.str u.1]) Tq;have Tp:(upd H2 T1 (.tup [.str u.1])) T1=some (.tup [.str u.1]):=Ab;refine NT (K:=K) (q1 _ _ (sb _ _ htf)) Tp (by rw [ZA]; show f.length + 1<=sizeLine; lia) fun T H5 s5 hT=>?_
    have q5:=q1.trans s5;refine hB _ _ _ (q5 _ _ AK) ⟨_,rfl,fun b o' z=>by rw [Ae (Ah z hD)]; exact q5 _ _ (sb _ _ z),Ab,?_,by rw [ZH,al]; rfl⟩;rw [ZR,ef,ZG];have Zt:H5 T=some (.tup ((f ++ [u.1]).map V.str)):=by rw [hT,ZG]; rfl
    refine ((tp.keep fun b ys z=>q5 _ _ z).app (.cons Zt .nil)).keep fun b ys z=>?_
    rw [Ae (Cy z (q5 _ _ AK) (fun q=>by cases q))];exact z
   ·rintro D Aw H2 acc hD ⟨v0,rfl,sb,AK,tp,al⟩;refine ⟨L,D,us,acc,rfl,rfl,sb _ _ hL,AK,by lia,fun p hp=>?_⟩;have sp:=Ad (o:=.lst (us ++ acc)) hp;rw [hul,ZY] at tp;have e0:(Ap.map (·.1))[i]? = some u.1:=by rw [ZL,eu]; rfl
    have e1:(Ap.map (·.1)).take (i + 1)=(Ap.map (·.1)).take i ++ [u.1]:=by rw [ZR,e0]; rfl
    have nin:u.1 ∉ (Ap.map (·.1)).take i:=by
     have:=snd.sublist (eZ (i + 1) _);rw [e1] at this;exact fun z=>(ba.mp this).2.2 _ z _ (by simp) rfl
    have ef:(fs.filter fun f=>decide ((f.length:Int) < 100))=fs:=List.filter_eq_self.mpr fun f hf=>decide_eq_true (by have:=Xh f hf; lia)
    exists p,us ++ acc,fs ++ fs.map (· ++ [u.1]),_,_,_,rfl,(sa.trans sb).trans sp,Ab,((tU.keep fun b ys z=>sb _ _ z).app tp).keep (fun b ys z=>sp _ _ z),?_
    ·rw [e1];have:=HL.step nin sub;rw [ef] at this;exact this
    ·rw [ZH,ZA,Nat.pow_succ];lia
  ·rintro σ H' ⟨L,us,fs,v2,v3,v4,rfl,sa,hL,tU,sub,fl⟩;rw [ul,aK (by rw [ZA]; exact ZJ _)] at sub;rw [ul] at fl;have Xj:fs.length<=1024:=aj fl (aj (eT (by decide) sl) (by decide));have hul:=tU.len;have K0:=sa _ _ hc;have YZ:=sa _ _ Eb;obtain ⟨mo,hmo,mok⟩:∃ mo:Int,Gv [x,V.int (D3.length:Int)] (if decide (x=.non)=true then 1 else 0)=some (.int mo)/\∀ f ∈ fs,((f.length:Int)<=mo ↔ Gb x f.length=true):=by
    rcases lim with ⟨rfl,_⟩ | ⟨i,rfl,_,i1,i2⟩
    ·refine ⟨D3.length,rfl,fun f hf=>⟨fun _=>rfl,fun _=>?_⟩⟩;have:=((sub.2 f).mp hf).1.length_le;rw [ZA] at this;lia
    ·exact ⟨i,rfl,fun f hf=>⟨fun h=>decide_eq_true h,fun h=>of_decide_eq_true h⟩⟩
   refine ⟨_,rfl,c,_,_,_,rfl,rfl,Ay.of K0,rfl,_,rfl,c,_,_,_,rfl,rfl,Ay.of K0,rfl,t1,_,rfl,.inr (Ay.of YZ),(by show 2<=sizeLine; lia),fun M hM=>?_⟩;have sM:=Ad (o:=.lst [x,.int (D3.length:Int)]) hM;have WX:(upd H' M (.lst [x,.int (D3.length:Int)])) M=some (.lst [x,.int (D3.length:Int)]):=Ab;generalize upd H' M (.lst [x,.int (D3.length:Int)])=H1 at sM WX ⊢;refine ⟨_,rfl,c,_,_,_,rfl,rfl,Ay.of (sM _ _ K0),rfl,.inr ⟨_,rfl,M,_,_,_,rfl,rfl,AZ.of WX,hmo,?_⟩⟩;exists _,rfl,L,rfl,⟨_,AZ.of (sM _ _ hL)⟩
   refine DF C2 (xs:=us) (fun D i Aw H2 acc=>∃ v0:Option V,Aw=[v0,some (.int mo)]/\Aq H1 H2/\H2 D=some (.lst acc)/\BR H2 acc ((fs.take i).filter fun f=>decide (0 < f.length) && Gb x f.length)/\acc.length<=i)
    (by lia) (fun D hD=>⟨_,rfl,Ad hD,Ab,.nil,ZJ _⟩) (fun D i Aw H2 acc hD ⟨v0,_,sb,AK,_,al⟩=>⟨AZ.of (sb _ _ (sM _ _ hL)),AK,al⟩) ?_ ?_
   ·rintro D i Aw H2 acc x' B N hD ex ⟨v0,rfl,sb,AK,tp,al⟩ hB hN;obtain ⟨tf,f,rfl,ef,htf⟩:=tU.get ex;have W9:=sb _ _ (sM _ _ htf);have mk:=mok f (ZE ef);have yes:(decide (0 < f.length) && Gb x f.length)=true->B [some (.ref tf),some (.int mo)] (.ref tf) H2:=fun z=>by
     refine hB _ _ _ AK ⟨_,rfl,fun b o' z=>by rw [Ae (Ah z hD)]; exact sb _ _ z,Ab,?_,by rw [ZH]; simp; lia⟩;rw [ZR,ef,bx];simp only [dF,cz,z,if_true,fK];refine (tp.app (.cons W9 .nil)).keep fun b ys z=>?_
     rw [Ae (Cy z AK (fun q=>by cases q))];exact z
    have no:(decide (0 < f.length) && Gb x f.length)=false->N [some (.ref tf),some (.int mo)] H2:=fun z=>by
     refine hN _ _ ⟨_,rfl,sb,AK,?_,by lia⟩;rw [ZR,ef,bx];simp only [dF,cz,z,ai,if_false,fK,bV];exact tp
    exists _,rfl,tf,_,rfl,.inr (Ay.of W9),_,_,rfl,rfl,_,rfl;rw [ZA];refine CL (fun z1=>?_) (fun z1=>?_)
    ·have Xu:0 < f.length:=by have:=of_decide_eq_true z1; lia
     exists _,rfl,_,_,rfl,rfl,_,rfl;refine CL (fun z=>?_) (fun z=>?_)
     ·exact ⟨_,rfl,yes (by rw [decide_eq_true Xu,mk.mp (of_decide_eq_true z)]; rfl)⟩
     ·refine no ?_;rw [decide_eq_true Xu,Bool.true_and];cases hb:Gb x f.length with
      | false=>rfl
      | true=>exact absurd (decide_eq_true (mk.mpr hb)) z
    ·have z0:¬ ((0:Int) < f.length):=by simpa using z1
     have Xu:¬ 0 < f.length:=by lia
     exists _,rfl;refine BZ ?_;exact no (by rw [decide_eq_false Xu]; rfl)
   ·rintro D Aw H2 acc hD ⟨v0,rfl,sb,AK,tp,al⟩;rw [hul,ZY] at tp;refine ⟨D,acc,fun _=>true,rfl,AZ.of AK,tp.kinds (fun f hf=>?_),fun l DR hl pm=>?_⟩
    ·have:=(aU.mp hf).2;simp only [aB,decide_eq_true_eq] at this;intro z;rw [z] at this;simp at this
    ·obtain ⟨os,po,to⟩:=BR.perm pm tp;have X1:=Ad (o:=.lst DR) hl;refine k _ l DR os (((sa.trans sM).trans sb).trans X1) ?_ Ab (to.keep fun b ys z=>X1 _ _ z) ⟨po.nodup_iff.mpr (sub.1.sublist bX),?_,fun ss=>?_⟩ (by rw [po.length_eq]; exact aj (e6 _ _) Xj)
     ·exact ((sa.trans sM).trans sb).free hl
     ·trivial
     ·rw [po.mem_iff,aU,sub.2,aB,decide_eq_true_eq];constructor
      ·rintro ⟨⟨h1,_⟩,h2,h3⟩;exact ⟨by intro z; rw [z] at h2; simp at h2,h1,h3⟩
      ·rintro ⟨h1,h2,h3⟩;refine ⟨⟨h2,?_⟩,bE.mpr h1,h3⟩;have:=h2.length_le;rw [ZA] at this;lia
end
section
variable {P:Program} {w:World} {K:ZD} {mg:Str->Option Value} {base:Heap}
theorem JN (h_all:mg "all"=none) (h_list:mg "list"=none) (h_sorted:mg "sorted"=none) (h_set:mg "set"=none) {fN:Addr} {fdN:FuncData} (XN:Fn K mg "is_name" Di ["thing"] fN fdN) (GN:A8 P w K mg base Bt 1 fN fdN ["thing"] (KS K)) {f:Addr} {fd:FuncData} (F:Dm K "are_rising" "are_rising" CV f fd):A8 P w K mg base Bt 2 f fd ["things"] (LU K):=by
 refine F.ok Fu (fun vs H Q E h=>?_) (fun cdv A outer s H vs Q E hr h=>?_)
 ·obtain ⟨t,xs,ds,rfl,_⟩:=h;rfl
 ·obtain ⟨t,xs,ds,rfl,ht,dx,short,few,k⟩:=h;have nd:=Fu.nd;have Jn:=hr.units;have big:100000 < sizeLine:=by decide
  refine ⟨_,(Al (A4 (C1 (Ak (BO rfl) (by rfl) h_all PyProof.Rows.boot_all (Aa (AS (N:=["thing"]) (σ0:=fun _=>[none]) rfl (AD.plain (by decide +kernel) (by decide +kernel) rfl (by decide +kernel)) (fun σ _=>Ba.none _ _ _ ["thing"] σ) (Vc (pv 0))
   (fun s2 H C fp=>⟨Ai (i:=0) (show (["thing"]:List Str).Nodup by decide +kernel) rfl (Or.inl rfl),AQ,(Am GN (hr.mono (by decide)) (by rfl) XN.mg XN.F.kp XN.b .nil Ax (Aa (pv 0) Ac))⟩)) Ac))
   (Dt (Ct (PQ Jn) (AA Gk (by rfl) h_list PyProof.Rows.boot_list (Aa (pv 0) Ac)) (Ak (HX rfl) (by rfl) h_sorted PyProof.Rows.boot_sorted (Aa (AA (ML K rfl rfl) (by rfl) h_set PyProof.Rows.boot_set (Aa (pv 0) Ac)) Ac)) (Bx _)))))),?_⟩
  have seq:∀ H',Aq H H'->AZ K H' t xs\/Ay K H' t xs:=fun H' sa=>ht.imp (fun z=>AZ.of (sa _ _ z)) (fun z=>Ay.of (sa _ _ z))
  have dl:=dx.len;exists _,rfl,t,rfl;rcases ht with ht | ht
  ·refine .inl ⟨⟨_,AZ.of ht⟩,AX C2 (xs:=xs) (fun D i σ H' acc=>∃ v0:Option V,σ=[v0]/\Aq H H'/\H' D=some (.lst acc)/\acc=((ds.take i).map Hz).map V.bl/\acc.length=i)
    (by lia) (fun D hD=>⟨_,rfl,Ad hD,Ab,rfl,rfl⟩) (fun D i σ H' acc hD ⟨v0,_,sa,AK,_,al⟩=>⟨AZ.of (sa _ _ ht),AK,al⟩) ?_ ?_⟩
   ·rintro D i σ H' acc x B hD ex ⟨v0,rfl,sa,AK,rfl,al⟩ hB;obtain ⟨d,ed,hd⟩:=dx.at ex;have Lz:=hd.same sa;have step:∀ H5,Aq H' H5->B [some x] (.bl (Hz d)) H5:=fun H5 s5=>by
     refine hB _ _ _ (s5 _ _ AK) ⟨_,rfl,fun b o e=>?_,Ab,?_,by rw [ZH,al]; rfl⟩
     ·rw [Ae (Ah e hD)];exact s5 _ _ (sa _ _ e)
     ·rw [ZR,ed,ZG,ZG];rfl
    exists _,rfl,x,rfl;cases d with
    | str y=>
     cases hd
     exact .inl ⟨y,rfl,short y (ZE ed),step⟩
    | _=>exact .inr ⟨Lz.notStr (fun s=>by intro z; cases z),step _ (Aq.refl _)⟩
   ·rintro D σ H' acc hD ⟨v0,rfl,sa,AK,rfl,al⟩;rw [dl,ZY] at AK;exists D,ds.map Hz,rfl,AZ.of AK,_,rfl;refine CL (fun z=>?_) (fun z=>?_)
    ·obtain ⟨ss,rfl,hn⟩:=G7 z;obtain rfl:=dx.txt;rw [ZA] at few;refine ⟨_,rfl,t,_,rfl,seq _ sa,fun l hl=>?_⟩;have s1:=Ad (o:=.lst (ss.map V.str)) hl;refine ⟨_,rfl,t,ss,rfl,seq _ (sa.trans s1),by lia,fun D2 Iq=>⟨D2,ss,rfl,Ab,by lia,fun l2 DS Io Wv N4 srt=>?_⟩⟩;have s2:=Ad (o:=setS P w D2 ss) Iq;have s3:=Ad (o:=.lst (DS.map V.str)) Io;exists _,_,.lst (s3 _ _ (s2 _ _ Ab)) (C7 _ ss),.lst Ab (C7 _ DS),by simp only [PyData.canLay0]; exact EM hn,by simp only [PyData.canLay0]; exact EM (fun s hs=>hn s ((N4 s).mp hs)),?_
     ·simp only [PyData.depth,F7];decide
     ·refine k _ _ (sa.trans (s1.trans (s2.trans s3))) ?_;rw [MG];exists fun e=>⟨ss,rfl,hn,(Eo Wv N4 srt).mp (Ib e)⟩
      rintro ⟨s5,e5,_,r5⟩;obtain rfl:=Ib e5;rw [(Eo Wv N4 srt).mpr r5]
    ·refine k _ _ sa ⟨fun q=>absurd q (by decide),fun ⟨ss,e,hn,_⟩=>?_⟩;rw [e] at z;exact absurd (KD hn) z
  ·refine .inr ⟨⟨_,Ay.of ht⟩,AX Be (xs:=xs) (fun D i σ H' acc=>∃ v0:Option V,σ=[v0]/\Aq H H'/\H' D=some (.lst acc)/\acc=((ds.take i).map Hz).map V.bl/\acc.length=i)
    (by lia) (fun D hD=>⟨_,rfl,Ad hD,Ab,rfl,rfl⟩) (fun D i σ H' acc hD ⟨v0,_,sa,AK,_,al⟩=>⟨Ay.of (sa _ _ ht),AK,al⟩) ?_ ?_⟩
   ·rintro D i σ H' acc x B hD ex ⟨v0,rfl,sa,AK,rfl,al⟩ hB;obtain ⟨d,ed,hd⟩:=dx.at ex;have Lz:=hd.same sa;have step:∀ H5,Aq H' H5->B [some x] (.bl (Hz d)) H5:=fun H5 s5=>by
     refine hB _ _ _ (s5 _ _ AK) ⟨_,rfl,fun b o e=>?_,Ab,?_,by rw [ZH,al]; rfl⟩
     ·rw [Ae (Ah e hD)];exact s5 _ _ (sa _ _ e)
     ·rw [ZR,ed,ZG,ZG];rfl
    exists _,rfl,x,rfl;cases d with
    | str y=>
     cases hd
     exact .inl ⟨y,rfl,short y (ZE ed),step⟩
    | _=>exact .inr ⟨Lz.notStr (fun s=>by intro z; cases z),step _ (Aq.refl _)⟩
   ·rintro D σ H' acc hD ⟨v0,rfl,sa,AK,rfl,al⟩;rw [dl,ZY] at AK;exists D,ds.map Hz,rfl,AZ.of AK,_,rfl;refine CL (fun z=>?_) (fun z=>?_)
    ·obtain ⟨ss,rfl,hn⟩:=G7 z;obtain rfl:=dx.txt;rw [ZA] at few;refine ⟨_,rfl,t,_,rfl,seq _ sa,fun l hl=>?_⟩;have s1:=Ad (o:=.lst (ss.map V.str)) hl;refine ⟨_,rfl,t,ss,rfl,seq _ (sa.trans s1),by lia,fun D2 Iq=>⟨D2,ss,rfl,Ab,by lia,fun l2 DS Io Wv N4 srt=>?_⟩⟩;have s2:=Ad (o:=setS P w D2 ss) Iq;have s3:=Ad (o:=.lst (DS.map V.str)) Io;exists _,_,.lst (s3 _ _ (s2 _ _ Ab)) (C7 _ ss),.lst Ab (C7 _ DS),by simp only [PyData.canLay0]; exact EM hn,by simp only [PyData.canLay0]; exact EM (fun s hs=>hn s ((N4 s).mp hs)),?_
     ·simp only [PyData.depth,F7];decide
     ·refine k _ _ (sa.trans (s1.trans (s2.trans s3))) ?_;rw [MG];exists fun e=>⟨ss,rfl,hn,(Eo Wv N4 srt).mp (Ib e)⟩
      rintro ⟨s5,e5,_,r5⟩;obtain rfl:=Ib e5;rw [(Eo Wv N4 srt).mpr r5]
    ·refine k _ _ sa ⟨fun q=>absurd q (by decide),fun ⟨ss,e,hn,_⟩=>?_⟩;rw [e] at z;exact absurd (KD hn) z
end
section
variable {P:Program} {w:World} {K:ZD} {mg:Str->Option Value} {base:Heap}
theorem IW (h_len:mg "len"=none) (h_min:mg "min"=none) {f:Addr} {fd:FuncData} (F:Dm K "most_houses" "most_houses" C8 f fd):A8 P w K mg base Bt 1 f fd ["case"] Ra:=by
 refine F.ok ED (fun vs H Q E h=>?_) (fun cdv A outer s H vs Q E hr h=>?_)
 ·obtain ⟨c,sites,x,d,rfl,_⟩:=h;rfl
 ·obtain ⟨c,sites,x,d,rfl,cs,k⟩:=h;have nd:=ED.nd;have big:100000 < sizeLine:=by decide
  refine ⟨_,(Af (Dr (pv 0) (AO K rfl rfl (Aj (Ai (i:=1) nd rfl (Or.inl rfl)) (Aj (Ai (i:=2) nd rfl (Or.inl rfl)) (Aj (Ai (i:=3) nd rfl (Or.inl rfl)) (Aj (Ai (i:=4) nd rfl (Or.inl rfl)) AN))))))
  (Al (A4 (Mk (F3 (G4 (pv 4))) (Ak (B7 K rfl) (by rfl) h_len PySem.boot_len (Aa (pv 2) Ac)) (Ak (GZ rfl) (by rfl) h_min PyProof.Rows.boot_min (Aa (pv 4) (Aa (Ak (B7 K rfl) (by rfl) h_len PySem.boot_len (Aa (pv 2) Ac)) Ac))))))),?_⟩
  obtain ⟨mV,t2V,t1,D3,Ap,hc,Eb,Et,rfl,snd,sl,lim⟩:=cs;have ul:=A3 Et;exists _,rfl,c,_,rfl,Ay.of hc,rfl,_,_,rfl,_,_,rfl,_,_,rfl,_,_,rfl,rfl;exists _,rfl,_,rfl;rcases lim with ⟨rfl,_⟩ | ⟨lm,rfl,_,lm1,lm2⟩
  ·refine CL (fun _=>?_) (fun z=>by simp at z);exists _,rfl,t1,_,rfl,.inr (Ay.of Eb);refine k _ (by lia) fun j hj=>?_
   rw [ZA] at hj;simp only [Gb,iff_true];lia
  ·refine CL (fun z=>by simp at z) (fun _=>?_);exists _,rfl,_,rfl,t1,_,rfl,.inr (Ay.of Eb),_,_,rfl;refine k _ (by split <;> lia) fun j hj=>?_
   rw [ZA] at hj;simp only [Gb,decide_eq_true_eq];split <;> lia
end
section
variable {P:Program} {w:World} {K:ZD} {mg:Str->Option Value} {base:Heap}
theorem IX (h_dict:mg "dict"=none) (h_sum:mg "sum"=none) {f:Addr} {fd:FuncData} (F:Dm K "houses_cost" "houses_cost" C9 f fd):A8 P w K mg base Bt 2 f fd ["case","opening"] FN:=by
 refine F.ok EF (fun vs H Q E h=>?_) (fun cdv A outer s H vs Q E hr h=>?_)
 ·obtain ⟨c,o,m,n,xs,ss,ws,Ap,Ar,x,d,rfl,_⟩:=h;rfl
 ·obtain ⟨c,o,m,n,xs,ss,ws,Ap,Ar,x,d,rfl,cw,ho,⟨sne,snd,ssub⟩,k⟩:=h;have nd:=EF.nd;have hu:=CN hr;have big:100000 < sizeLine:=by decide
  refine ⟨_,(Af (Ao (i:=2) nd rfl (Or.inr rfl) (AA (Bs rfl) (by rfl) h_dict PyProof.Rows.boot_dict (Aa (Az F6 (pv 0) Ag (fun _ _=>rfl)) Ac)))
  (Al (A4 (Ak (B6 rfl) (by rfl) h_sum PyProof.Rows.boot_sum (Aa (AS (N:=["house","costs"]) (σ0:=fun σ=>[none,some 2].map fun j=>j.bind fun j=>(σ[j]?).join) rfl (AD.caught (by rfl) (by decide +kernel) rfl (by decide +kernel) (by intro y hy; simp only [ZF,ZI,or_false] at hy; rcases hy with rfl <;> rfl)
   (by intro y hy e; simp only [ZF,ZI,or_false] at hy; rcases hy with rfl | rfl | rfl <;> first | exact ⟨_,rfl⟩ | cases e)) (fun σ _=>Ba.of [none,some 2] rfl (by
   intro i j x h1 h2;match i,h1,h2 with
   | 0,_,h2=>cases h2
   | 1,h1,h2=>cases h1; cases h2; exact ⟨rfl,.inl rfl,.inl rfl⟩
   | n + 2,h1,_=>cases h1)) (G3 (pv 1))
   (fun s2 H C fp=>⟨(Ai (i:=0) (show (["house","costs"]:List Str).Nodup by decide +kernel) rfl (Or.inl rfl)),AQ,(AW hu (pv 1) (pv 0) (fun _ _=>rfl))⟩)) Ac))))),?_⟩
  obtain ⟨t1,t2,D3,EX,hc,Eb,Et,DM,hd2⟩:=cw.ex;have ul:=A3 Et;have l1:=cw.l1;have sl:ss.length<=Ap.length:=by
   have:=List.Nodup.length_le_of_subset snd (fun s hs=>ssub s hs);rw [ZA] at this;exact this
  refine ⟨_,rfl,c,_,_,_,rfl,rfl,Ay.of hc,rfl,t1,D3,Br Ap,rfl,Eb,by unfold Br; rw [ZA]; exact ul,Fg Et,by rw [Ck]; exact cw.ok1.nd,by unfold Br; rw [ZA]; lia,fun B hB=>?_⟩;have s1:=Ad (o:=.dK (sK (Br Ap))) hB;have MA:(upd H B (.dK (sK (Br Ap)))) B=some (.dK (sK (Br Ap))):=Ab;generalize upd H B (.dK (sK (Br Ap)))=H1 at s1 MA;exists _,rfl,o,rfl,⟨_,Ay.of (s1 _ _ ho)⟩
  refine AX Be (xs:=ss.map V.str) (fun D i σ H' acc=>∃ v0:Option V,σ=[v0,some (.ref B)]/\Aq H1 H'/\H' D=some (.lst acc)/\acc=((ss.take i).map (BI Ap)).map V.int/\acc.length=i)
   (by rw [ZA]; lia) (fun D hD=>⟨_,rfl,Ad hD,Ab,rfl,rfl⟩)
   (fun D i σ H' acc hD ⟨v0,_,sa,AK,_,al⟩=>⟨Ay.of (sa _ _ (s1 _ _ ho)),AK,al⟩) ?_ ?_
  ·rintro D i σ H' acc x' Bk hD ex ⟨v0,rfl,sa,AK,ea,al⟩ hBk;obtain ⟨y,ey,rfl⟩:∃ y,ss[i]? = some y/\x'=.str y:=by
    rw [ZL] at ex;cases z:ss[i]? with
    | none=>rw [z] at ex; cases ex
    | some y=>rw [z] at ex; exact ⟨y,rfl,(ZZ.inj ex).symm⟩
   exists _,rfl,_,rfl,B,_,rfl,EG (sa _ _ MA) cw.ok1.nd (ssub y (ZE ey));refine hBk _ _ _ AK ⟨_,rfl,fun b o' z=>by rw [Ae (Ah z hD)]; exact sa _ _ z,Ab,?_,by rw [ZH,al]; rfl⟩;rw [ea,ZR,ey,ZG,ZG];rfl
  ·rintro D σ H' acc hD ⟨v0,rfl,sa,AK,ea,al⟩;rw [ZA,ZY] at ea;exact ⟨D,ss.map (BI Ap),rfl,AZ.of (by rw [AK,ea]),k H' (s1.trans sa)⟩
end
section
variable {P:Program} {w:World} {K:ZD} {mg:Str->Option Value} {base:Heap}
theorem JM (h_all:mg "all"=none) (h_dict:mg "dict"=none) (h_isinstance:mg "isinstance"=none) (h_len:mg "len"=none) (h_tuple:mg "tuple"=none) {fM:Addr} {fdM:FuncData} (XM:Fn K mg "most_houses" C8 ["case"] fM fdM) (GM:A8 P w K mg base Bt 1 fM fdM ["case"] Ra) {fR:Addr} {fdR:FuncData} (XR:Fn K mg "are_rising" CV ["things"] fR fdR) (GR:A8 P w K mg base Bt 2 fR fdR ["things"] (LU K)) {f:Addr} {fd:FuncData} (F:Dm K "is_opening" "is_opening" CU f fd):A8 P w K mg base Bt 3 f fd ["case","thing"] (Ot K):=by
 refine F.ok Ft (fun vs H Q E h=>?_) (fun cdv A outer s H vs Q E hr h=>?_)
 ·obtain ⟨c,o,sites,ss,x,d,rfl,_⟩:=h;rfl
 ·obtain ⟨c,o,sites,ss,x,d,rfl,cs,ho,ne,ri,nm,lb,k⟩:=h;have nd:=Ft.nd;have hu:=CN hr;have big:100000 < sizeLine:=by decide
  refine ⟨_,(Af (Cr (Hr (DJ (EI (Ak BF (by rfl) h_isinstance PyProof.Rows.boot_isinstance (Aa (pv 1) (Aa (Dd (v:=.ty "tuple") (by rfl) h_tuple PyProof.Rows.boot_tuple rfl) Ac))))) (EH (DJ (IL Ku Ku Ag (Ak AI (by rfl) h_len PySem.boot_len (Aa (pv 1) Ac)) (Am GM (hr.mono (by decide)) (by rfl) XM.mg XM.F.kp XM.b .nil Ax (Aa (pv 0) Ac)))))).pt
  (Al (A4 E4))
  Bo)
  (Af (Ao (i:=2) nd rfl (Or.inr rfl) (AA (Bs rfl) (by rfl) h_dict PyProof.Rows.boot_dict (Aa (Az (A7 K rfl) (pv 0) Ag (fun _ _=>rfl)) Ac)))
  (Al (A4 (C1 (Am GR (hr.mono (by decide)) (by rfl) XR.mg XR.F.kp XR.b .nil Ax (Aa (pv 1) Ac)) (Dt (Ak (BO rfl) (by rfl) h_all PyProof.Rows.boot_all (Aa (AS (N:=["place","sites"]) (σ0:=fun σ=>[none,some 2].map fun j=>j.bind fun j=>(σ[j]?).join) rfl (AD.caught (by rfl) (by decide +kernel) rfl (by decide +kernel) (by intro y hy; simp only [ZF,ZI,or_false] at hy; rcases hy with rfl <;> rfl)
   (by intro y hy e; simp only [ZF,ZI,or_false] at hy; rcases hy with rfl | rfl | rfl <;> first | exact ⟨_,rfl⟩ | cases e)) (fun σ _=>Ba.of [none,some 2] rfl (by
   intro i j x h1 h2;match i,h1,h2 with
   | 0,_,h2=>cases h2
   | 1,h1,h2=>cases h1; cases h2; exact ⟨rfl,.inl rfl,.inl rfl⟩
   | n + 2,h1,_=>cases h1)) (AR K rfl (pv 1))
   (fun s2 H C fp=>⟨(Ai (i:=0) (show (["place","sites"]:List Str).Nodup by decide +kernel) rfl (Or.inl rfl)),AQ,(IU (Vi hu (pv 0) (pv 1)))⟩)) Ac)))))))),?_⟩
  have ll:ss.length<=sites.length:=List.Nodup.length_le_of_subset ri.nodup fun s hs=>(nm s hs).2
  have l0:1<=ss.length:=Nat.pos_of_ne_zero fun e=>ne (c0.mp e)
  exists _,rfl,_,"tuple",_,_,rfl,.tup ho,rfl,_,rfl;refine BZ ?_;exists _,rfl,o,_,rfl,.inr (Ay.of ho),_,_,rfl,rfl,_,rfl;refine CL (fun _=>?_) (fun z=>absurd (decide_eq_true (by rw [ZA]; lia)) z);refine ⟨_,rfl,c,sites,x,d,rfl,cs,fun mo mo0 mok=>?_⟩;obtain ⟨mV,t2V,t1,D3,Ap,hc,Eb,Et,rfl,snd,sl,lim⟩:=cs;have ul:=A3 Et;have le:=(mok _ ll).mpr lb;rw [ZA] at sl;exists _,_,rfl,rfl,_,rfl;refine CL (fun z=>?_) (fun _=>?_)
  ·rw [ZA] at z;simp [le] at z
  refine ⟨_,rfl,c,_,_,_,rfl,rfl,Ay.of hc,rfl,t1,D3,Br Ap,rfl,Eb,by unfold Br; rw [ZA]; exact ul,Fg Et,by rw [Ck]; exact snd,by unfold Br; rw [ZA]; lia,fun B hB=>?_⟩;have s1:=Ad (o:=.dK (sK (Br Ap))) hB;have MA:(upd H B (.dK (sK (Br Ap)))) B=some (.dK (sK (Br Ap))):=Ab;generalize upd H B (.dK (sK (Br Ap)))=H1 at s1 MA;rw [ZA] at ll;refine ⟨_,rfl,o,ss.map V.str,ss.map PyData.str,rfl,.inr (s1 _ _ ho),C7 _ ss,fun s hs=>?_,by rw [ZA]; lia,fun b H2 s2 hb=>⟨_,rfl,?_⟩⟩
  ·obtain ⟨y,hy,e⟩:=ZO.mp hs;cases e
   exact aj (Jb (nm _ hy).1) (by decide)
  have bt:b=true:=hb.mpr ⟨ss,rfl,fun s hs=>(nm s hs).1,ri⟩;subst bt;refine De ?_;have Zu:=s2 _ _ MA;have DM:=s2 _ _ (s1 _ _ ho);exists _,rfl,o,rfl,⟨_,Ay.of DM⟩
  refine AX Be (xs:=ss.map V.str) (fun D i σ H' acc=>∃ v0:Option V,σ=[v0,some (.ref B)]/\Aq H2 H'/\H' D=some (.lst acc)/\acc=((ss.take i).map fun _=>true).map V.bl/\acc.length=i)
   (by rw [ZA]; lia) (fun D hD=>⟨_,rfl,Ad hD,Ab,rfl,rfl⟩) (fun D i σ H' acc hD ⟨v0,_,sa,AK,_,al⟩=>⟨Ay.of (sa _ _ DM),AK,al⟩) ?_ ?_
  ·rintro D i σ H' acc x' Bk hD ex ⟨v0,rfl,sa,AK,ea,al⟩ hBk;obtain ⟨y,ey,rfl⟩:∃ y,ss[i]? = some y/\x'=.str y:=by
    rw [ZL] at ex;cases q:ss[i]? with
    | none=>rw [q] at ex; cases ex
    | some y=>rw [q] at ex; exact ⟨y,rfl,(ZZ.inj ex).symm⟩
   exists _,rfl,_,rfl,B,_,rfl,Cn.k (k:=Sum.inr y) (sa _ _ Zu);rw [Hq,Ck,decide_eq_true (nm y (ZE ey)).2];refine hBk _ _ _ AK ⟨_,rfl,fun b o e=>?_,Ab,?_,by rw [ZH,al]; rfl⟩
   ·rw [Ae (Ah e hD)];exact sa _ _ e
   ·rw [ea,ZR,ey,ZG,ZG];rfl
  ·rintro D σ H' acc hD ⟨v0,rfl,sa,AK,ea,al⟩;exists D,_,rfl,AZ.of (by rw [AK,ea]);have e2:((ss.take (ss.map V.str).length).map fun _=>true).all id=true:=by rw [bu]; exact aG.mpr fun _ _=>rfl
   rw [e2];exact k _ (s1.trans (s2.trans sa))
theorem JP (h_all:mg "all"=none) {fO:Addr} {fdO:FuncData} (XO:Fn K mg "are_folk_rows" BL ["case","thing"] fO fdO) (GO:A8 P w K mg base Bt 4 fO fdO ["case","thing"] (KW K)) {fI:Addr} {fdI:FuncData} (XI:Fn K mg "is_name" Di ["thing"] fI fdI) (GI:A8 P w K mg base Bt 1 fI fdI ["thing"] (KS K)) {f:Addr} {fd:FuncData} (F:Dm K "are_goings" "are_goings" CY f fd):A8 P w K mg base Bt 5 f fd ["case","opening","thing"] TX:=by
 refine F.ok Fw (fun vs H Q E h=>?_) (fun cdv A outer s H vs Q E hr h=>?_)
 ·obtain ⟨c,m,pp,o,t,T,n,xs,ws,Ap,Ar,x,d,ss,zs,qs,lv,rfl,_⟩:=h;rfl
 ·obtain ⟨c,m,pp,o,t,T,n,xs,ws,Ap,Ar,x,d,ss,zs,qs,lv,rfl,pa,k⟩:=h;have nd:=Fw.nd;have big:100000 < sizeLine:=by decide
  refine ⟨_,(Al (A4 (C1 (Am GO (hr.mono (by decide)) (by rfl) XO.mg XO.F.kp XO.b .nil Ax (Aa (pv 0) (Aa (pv 2) Ac))) (Dt (Ak (BO rfl) (by rfl) h_all PyProof.Rows.boot_all (Aa (AS (N:=["place","house","opening"]) (σ0:=fun σ=>[none,none,some 1].map fun j=>j.bind fun j=>(σ[j]?).join) rfl (AD.caught (by rfl) (by decide +kernel) rfl (by decide +kernel) (by intro y hy; simp only [ZF,ZI,or_false] at hy; rcases hy with rfl <;> rfl)
   (by intro y hy e; simp only [ZF,ZI,or_false] at hy; rcases hy with rfl | rfl | rfl | rfl | rfl <;> first | exact ⟨_,rfl⟩ | cases e)) (fun σ _=>Ba.of [none,none,some 1] rfl (by
   intro i j x h1 h2;match i,h1,h2 with
   | 0,_,h2=>cases h2
   | 1,_,h2=>cases h2
   | 2,h1,h2=>cases h1; cases h2; exact ⟨rfl,.inl rfl,.inl rfl⟩
   | n + 3,h1,_=>cases h1)) (AR K rfl (pv 2))
   (fun s2 H C fp=>⟨(AO K rfl (n:=2) rfl (Aj (Ai (i:=0) (show (["place","house","opening"]:List Str).Nodup by decide +kernel) rfl (Or.inl rfl)) (Aj (Ai (i:=1) (show (["place","house","opening"]:List Str).Nodup by decide +kernel) rfl (Or.inl rfl)) AN))),AQ,(C1 (Am GI (hr.mono (by decide)) (by rfl) XI.mg XI.F.kp XI.b .nil Ax (Aa (pv 1) Ac)) (Dt (Ct (Nx K rfl) (pv 1) (pv 2) (by rfl))))⟩)) Ac)))))),?_⟩
  obtain ⟨us,ht,du⟩:=pa.wk;have ul:=FI du;have zl:=pa.zl;have l2:=pa.cp.cw.l2;have rows:ET K H (.ref t) (Ar.map (·.1)) true:=.inr ⟨t,us,rfl,ht,.inr ⟨by rw [ZA]; lia,us.map fun _=>true,by rw [ZA],by rw [bu]; exact (aG.mpr fun _ _=>rfl).symm,fun i u y c' a1 a2 a3=>by
   obtain ⟨z,tt,ez,rfl,htt⟩:=Fl du a1;obtain ⟨r,er,rz⟩:=QC pa.zn ez;rw [ZL,er] at a2;cases a2
   rw [ZL,a1] at a3;cases a3
   show Fz K H (.ref tt) r.1 true
   rw [rz];refine Fz.right ?_ htt;rw [<-rz];exact pa.cp.cw.map.at'.nm _ (pa.cp.cw.ok2.sub r (ZE er))⟩⟩
  refine ⟨_,rfl,_,rfl,c,m,n,xs,ws,Ap,Ar,x,d,.ref t,true,rfl,pa.cp.cw,rows,fun H1 s1=>⟨_,rfl,?_⟩⟩;refine De ?_;have Eb:=s1 _ _ ht;exists _,rfl,t,rfl,⟨_,Ay.of Eb⟩
  refine AX Be (xs:=us) (fun D i Aw H' acc=>∃ v0 v1:Option V,Aw=[v0,v1,some (.ref o)]/\Aq H1 H'/\H' D=some (.lst acc)/\acc=((zs.take i).map fun _=>true).map V.bl/\acc.length=i)
   (by lia) (fun D hD=>⟨_,_,rfl,Ad hD,Ab,rfl,rfl⟩) (fun D i Aw H' acc hD ⟨v0,v1,_,sa,AK,_,al⟩=>⟨Ay.of (sa _ _ Eb),AK,al⟩) ?_ ?_
  ·rintro D i Aw H' acc x' B hD ex ⟨v0,v1,rfl,sa,AK,ea,al⟩ hB;obtain ⟨z,tt,ez,rfl,htt⟩:=Fl du ex;have zm:=pa.zs' z (ZE ez);have zn':=(pa.inx z.2 zm).2;exists tt,_,rfl,Ay.of (sa _ _ (s1 _ _ htt)),rfl,_,_,rfl,_,_,rfl,rfl;refine ⟨_,rfl,_,rfl,.inl ⟨z.2,rfl,aj (Jb zn') (by decide),fun H5 s5=>⟨_,rfl,?_⟩⟩⟩;rw [zn'];refine De ?_;exists _,rfl,_,rfl,o,_,rfl,.inr (Ay.of (s5 _ _ (sa _ _ (s1 _ _ pa.op)))),rfl,GY ss;rw [Jm];have e:decide (z.2 ∈ ss)=true:=decide_eq_true zm;refine hB _ _ _ (s5 _ _ AK) ⟨_,_,rfl,fun b o' q=>by rw [Ae (Ah q hD)]; exact s5 _ _ (sa _ _ q),Ab,?_,by rw [ZH,al]; rfl⟩;rw [ea,ZR,ez,ZG,ZG];simp [zm]
  ·rintro D Aw H' acc hD ⟨v0,v1,rfl,sa,AK,ea,al⟩;exists D,_,rfl,AZ.of (by rw [AK,ea]);have e2:((zs.take us.length).map fun _=>true).all id=true:=by rw [bu]; exact aG.mpr fun _ _=>rfl
   rw [e2];exact k _ (s1.trans sa)
theorem Nz (h_isinstance:mg "isinstance"=none) (h_len:mg "len"=none) (h_tuple:mg "tuple"=none) {fIO:Addr} {fdIO:FuncData} (XIO:Fn K mg "is_opening" CU ["case","thing"] fIO fdIO) (GIO:A8 P w K mg base Bt 3 fIO fdIO ["case","thing"] (Ot K)) {fAG:Addr} {fdAG:FuncData} (XAG:Fn K mg "are_goings" CY ["case","opening","thing"] fAG fdAG) (GAG:A8 P w K mg base Bt 5 fAG fdAG ["case","opening","thing"] TX) {fD:Addr} {fdD:FuncData} (XD:Fn K mg "stand" Ic ["case","prices","levy"] fD fdD) (GD:A8 P w K mg base Bt 6 fD fdD ["case","prices","levy"] (LS K)) {f:Addr} {fd:FuncData} (F:Dm K "lets_by" "lets_by" Fc f fd):A8 P w K mg base Bt 7 f fd ["case","paper"] Rb:=by
 refine F.ok IG (fun vs H Q E h=>?_) (fun cdv A outer s H vs Q E hr h=>?_)
 ·obtain ⟨c,m,pp,o,t,T,n,xs,ws,Ap,Ar,x,d,ss,zs,qs,lv,rfl,_⟩:=h;rfl
 ·obtain ⟨c,m,pp,o,t,T,n,xs,ws,Ap,Ar,x,d,ss,zs,qs,lv,rfl,pa,k⟩:=h;have nd:=IG.nd;have big:100000 < sizeLine:=by decide
  refine ⟨_,(Af (Cr (Hr (DJ (EI (Ak BF (by rfl) h_isinstance PyProof.Rows.boot_isinstance (Aa (pv 1) (Aa (Dd (v:=.ty "tuple") (by rfl) h_tuple PyProof.Rows.boot_tuple rfl) Ac))))) (EH (By R7 (Ak AI (by rfl) h_len PySem.boot_len (Aa (pv 1) Ac)) Ag (Bx _)))).pt
  (Al (A4 E4))
  Bo)
  (Af (Dr (pv 1) (AO K rfl rfl (Aj (Ai (i:=2) nd rfl (Or.inl rfl)) (Aj (Ai (i:=3) nd rfl (Or.inl rfl)) (Aj (Ai (i:=4) nd rfl (Or.inl rfl)) (Aj (Ai (i:=5) nd rfl (Or.inl rfl)) AN))))))
  (Al (A4 (C1 (Am GIO (hr.mono (by decide)) (by rfl) XIO.mg XIO.F.kp XIO.b .nil Ax (Aa (pv 0) (Aa (pv 2) Ac))) (C1 (Am GAG (hr.mono (by decide)) (by rfl) XAG.mg XAG.F.kp XAG.b .nil Ax (Aa (pv 0) (Aa (pv 2) (Aa (pv 3) Ac)))) (Dt (Am GD (hr.mono (by decide)) (by rfl) XD.mg XD.F.kp XD.b .nil Ax (Aa (pv 0) (Aa (pv 4) (Aa (pv 5) Ac))))))))))),?_⟩
  exists _,rfl,_,"tuple",_,_,rfl,.tup pa.pap,rfl,_,rfl;refine BZ ?_;exists _,rfl,pp,_,rfl,.inr (Ay.of pa.pap),rfl,_,rfl;refine BZ ?_;exists _,rfl,pp,_,rfl,Ay.of pa.pap,rfl,_,_,rfl,_,_,rfl,_,_,rfl,_,_,rfl,rfl;refine ⟨_,rfl,_,rfl,c,o,Ap.map (·.1),ss,x,d,rfl,pa.cp.cw.sites,pa.op,pa.ne,pa.ri,fun s hs=>⟨(pa.inx s hs).2,pa.sub s hs⟩,pa.lb,fun H1 s1=>⟨_,rfl,?_⟩⟩;refine De ?_;refine ⟨_,rfl,_,rfl,_,rfl,c,m,pp,o,t,T,n,xs,ws,Ap,Ar,x,d,ss,zs,qs,lv,rfl,pa.same s1,fun H2 s2=>⟨_,rfl,?_⟩⟩;refine De ?_;have p2:=(pa.same s1).same s2;refine ⟨_,rfl,_,rfl,_,rfl,c,m,n,xs,ws,Ap,Ar,x,d,.ref T,.int lv,rfl,p2.cp.cw,.inr ⟨T,qs,rfl,p2.cp,.inr ⟨lv,rfl,.inr ⟨lv,rfl,pa.lev.1,?_⟩,fun H3 s3=>?_⟩⟩⟩
  ·by_cases z:x=.non
   ·rw [pa.lev.2.2 z,decide_eq_true (rfl:(0:Int)=0),Bool.or_true]
   ·rw [decide_eq_false z]; rfl
  ·rw [pa.st];exact k _ ((s1.trans s2).trans s3)
theorem SV (h_dict:mg "dict"=none) (h_sum:mg "sum"=none) {fSF:Addr} {fdSF:FuncData} (XSF:Fn K mg "site_fars" CC ["case"] fSF fdSF) (GSF:A8 P w K mg base Bt 4 fSF fdSF ["case"] F2) {fHC:Addr} {fdHC:FuncData} (XHC:Fn K mg "houses_cost" C9 ["case","opening"] fHC fdHC) (GHC:A8 P w K mg base Bt 2 fHC fdHC ["case","opening"] FN) {fW2:Addr} {Xi:FuncData} (Z6:Fn K mg "low" O1 ["case","prices","levy"] fW2 Xi) (GW2:A8 P w K mg base Bt 1 fW2 Xi ["case","prices","levy"] KU) {f:Addr} {fd:FuncData} (F:Dm K "span" "span" Lc f fd):A8 P w K mg base Bt 5 f fd ["case","paper"] QV:=by
 refine F.ok Oz (fun vs H Q E h=>?_) (fun cdv A outer s H vs Q E hr h=>?_)
 ·obtain ⟨c,m,pp,o,t,T,n,xs,ws,Ap,Ar,x,d,ss,zs,qs,lv,rfl,_⟩:=h;rfl
 ·obtain ⟨c,m,pp,o,t,T,n,xs,ws,Ap,Ar,x,d,ss,zs,qs,lv,rfl,pa,k⟩:=h;have nd:=Oz.nd;have hu:=CN hr;have big:100000 < sizeLine:=by decide
  refine ⟨_,(Af (Dr (pv 1) (AO K rfl rfl (Aj (Ai (i:=2) nd rfl (Or.inl rfl)) (Aj (Ai (i:=3) nd rfl (Or.inl rfl)) (Aj (Ai (i:=4) nd rfl (Or.inl rfl)) (Aj (Ai (i:=5) nd rfl (Or.inl rfl)) AN))))))
  (Af (Ao (i:=6) nd rfl (Or.inr rfl) (AA (Bs rfl) (by rfl) h_dict PyProof.Rows.boot_dict (Aa (Az (A7 K rfl) (pv 0) Ag (fun _ _=>rfl)) Ac)))
  (Af (Ao (i:=7) nd rfl (Or.inr rfl) (Am GSF (hr.mono (by decide)) (by rfl) XSF.mg XSF.F.kp XSF.b .nil Ax (Aa (pv 0) Ac)))
  (Af (Ao (i:=8) nd rfl (Or.inl rfl) (As Bg (Am GHC (hr.mono (by decide)) (by rfl) XHC.mg XHC.F.kp XHC.b .nil Ax (Aa (pv 0) (Aa (pv 2) Ac))) (Ak (B6 rfl) (by rfl) h_sum PyProof.Rows.boot_sum (Aa (AS (N:=["place","house","manys","aways"]) (σ0:=fun σ=>[none,none,some 6,some 7].map fun j=>j.bind fun j=>(σ[j]?).join) rfl (AD.caught (by rfl) (by decide +kernel) rfl (by decide +kernel) (by intro y hy; simp only [ZF,ZI,or_false] at hy; rcases hy with rfl | rfl <;> rfl)
   (by intro y hy e; simp only [ZF,ZI,or_false] at hy; rcases hy with rfl | rfl | rfl | rfl | rfl <;> first | exact ⟨_,rfl⟩ | cases e)) (fun σ _=>Ba.of [none,none,some 6,some 7] rfl (by
   intro i j x h1 h2;match i,h1,h2 with
   | 0,_,h2=>cases h2
   | 1,_,h2=>cases h2
   | 2,h1,h2=>cases h1; cases h2; exact ⟨rfl,.inl rfl,.inl rfl⟩
   | 3,h1,h2=>cases h1; cases h2; exact ⟨rfl,.inl rfl,.inl rfl⟩
   | n + 4,h1,_=>cases h1)) (AR K rfl (pv 3))
   (fun s2 H C fp=>⟨(AO K rfl (n:=2) rfl (Aj (Ai (i:=0) (show (["place","house","manys","aways"]:List Str).Nodup by decide +kernel) rfl (Or.inl rfl)) (Aj (Ai (i:=1) (show (["place","house","manys","aways"]:List Str).Nodup by decide +kernel) rfl (Or.inl rfl)) AN))),AQ,(As BG (AW hu (pv 2) (pv 0) (fun _ _=>rfl)) (AW hu (AW hu (pv 3) (pv 1) (fun _ _=>rfl)) (pv 0) (fun _ _=>rfl)))⟩)) Ac))))
  (Al (A4 (AH (Aa (Am GW2 (hr.mono (by decide)) (by rfl) Z6.mg Z6.F.kp Z6.b .nil Ax (Aa (pv 0) (Aa (pv 4) (Aa (pv 5) Ac)))) (Aa (pv 8) Ac))))))))),?_⟩
  obtain ⟨us,ht,du⟩:=pa.wk;have ul:=FI du;have zl:=pa.zl;have l2:=pa.cp.cw.l2;obtain ⟨t1,t2,D3,EX,hc,Eb,Et,DM,hd2⟩:=pa.cp.cw.ex;have MT:=A3 hd2;exists _,rfl,pp,_,rfl,Ay.of pa.pap,rfl,_,_,rfl,_,_,rfl,_,_,rfl,_,_,rfl,rfl;refine ⟨_,rfl,c,_,_,_,rfl,rfl,Ay.of hc,rfl,t2,EX,Br Ar,rfl,DM,by unfold Br; rw [ZA]; exact MT,Fg hd2,by rw [Ck]; exact pa.cp.cw.ok2.nd,by unfold Br; rw [ZA]; lia,fun B hB=>?_⟩;have s1:=Ad (o:=.dK (sK (Br Ar))) hB;have MA:(upd H B (.dK (sK (Br Ar)))) B=some (.dK (sK (Br Ar))):=Ab;generalize upd H B (.dK (sK (Br Ar)))=H1 at s1 MA ⊢;refine ⟨_,rfl,c,m,n,xs,ws,Ap,Ar,x,d,rfl,pa.cp.cw.same s1,fun H2 D nv s2 hD AK ks fs=>?_⟩;have aw:E2 H2 D xs ws Ap:=⟨nv,AK,ks,fs⟩
  have Km:=s1.trans s2;refine ⟨_,rfl,_,rfl,c,o,m,n,xs,ss,ws,Ap,Ar,x,d,rfl,pa.cp.cw.same Km,Km _ _ pa.op,pa.opn,fun H3 s3=>?_⟩;have Q3:=Km.trans s3;have hB3:=s3 _ _ (s2 _ _ MA);have aw3:=aw.same s3;exists _,rfl,t,rfl,⟨_,Ay.of (Q3 _ _ ht)⟩
  refine AX Be (xs:=us) (fun D2 i Aw H' acc=>∃ v0 v1:Option V,Aw=[v0,v1,some (.ref B),some (.ref D)]/\Aq H3 H'/\H' D2=some (.lst acc)/\acc=(((Ar.zip zs).take i).map fun p=>p.1.2 * dst ws p.2.2 p.1.1).map V.int/\acc.length=i)
   (by lia) (fun D2 Iq=>⟨_,_,rfl,Ad Iq,Ab,rfl,rfl⟩) (fun D2 i Aw H' acc Iq ⟨v0,v1,_,sa,AK,_,al⟩=>⟨Ay.of (sa _ _ (Q3 _ _ ht)),AK,al⟩) ?_ ?_
  ·rintro D2 i Aw H' acc x' Bk Iq ex ⟨v0,v1,rfl,sa,GX,ea,al⟩ hBk;obtain ⟨z,tt,ez,rfl,htt⟩:=Fl du ex;obtain ⟨r,er,rz⟩:=QC pa.zn ez;have rm:=ZE er;have zm:=pa.zs' z (ZE ez);obtain ⟨r1,hr1,e1⟩:=ZO.mp (pa.sub _ zm);have Sr:r1.1=z.2:=e1;have g1:=EG (sa _ _ hB3) pa.cp.cw.ok2.nd (y:=z.1) (by rw [<-rz]; exact ZO.mpr ⟨r,rm,rfl⟩);have ec:BI Ar z.1=r.2:=by rw [<-rz]; exact Cg pa.cp.cw.ok2.nd rm
   rw [ec] at g1;obtain ⟨v,g2,fa⟩:=(aw3.same sa).get pa.cp.cw.ok1.nd hr1;rw [Sr] at g2 fa;obtain ⟨B2,rfl,g3⟩:=fa.get pa.cp.cw.map.at'.nd (y:=z.1) (by rw [<-rz]; exact pa.cp.cw.ok2.sub r rm);exists tt,_,rfl,Ay.of (sa _ _ (Q3 _ _ htt)),rfl,_,_,rfl,_,_,rfl,rfl;have r1':=(pa.cp.cw.ok2.lo r rm).1;have r4:=pa.cp.few r rm;exists _,rfl,_,rfl,B,_,rfl,g1,_,rfl,_,rfl,D,_,rfl,g2,_,rfl,B2,_,rfl,g3,_,_,rfl,rfl,.inl ⟨by lia,by lia⟩;refine hBk _ _ _ GX ⟨_,_,rfl,fun b o' q=>by rw [Ae (Ah q Iq)]; exact sa _ _ q,Ab,?_,by rw [ZH,al]; rfl⟩;rw [ea,FJ er ez,ZG,rz];rfl
  ·rintro D2 Aw H4 acc Iq ⟨v0,v1,rfl,sa,GX,ea,al⟩;have zt:((Ar.zip zs).take us.length).map (fun p=>p.1.2 * dst ws p.2.2 p.1.1)=(Ar.zip zs).map fun p=>p.1.2 * dst ws p.2.2 p.1.1:=by rw [aK (by rw [bH]; lia)]
   rw [zt] at ea;exists D2,_,rfl,AZ.of (by rw [GX,ea]),_,_,rfl,rfl;have Wq:=Q3.trans sa;refine ⟨_,rfl,_,rfl,_,rfl,c,m,T,n,xs,ws,Ap,Ar,qs,x,d,lv,rfl,pa.cp.same Wq,pa.lev,fun H5 s5=>⟨_,rfl,(by show 2<=sizeLine; lia),fun S hS=>?_⟩⟩;exact k _ S ((Wq.trans s5).trans (Ad hS)) Ab
end
section
variable {P:Program} {w:World} {K:ZD} {mg:Str->Option Value} {base:Heap}
theorem Lm (h_int:mg "int"=none) (h_len:mg "len"=none) (h_min:mg "min"=none) (h_sorted:mg "sorted"=none) (h_tuple:mg "tuple"=none) {fT:Addr} {fdT:FuncData} (XT:Fn K mg "_law_take" Bv ["_law_pen_here","_law_many"] fT fdT) (GT:A8 P w K mg base Bt 1 fT fdT ["_law_pen_here","_law_many"] CO) {fS:Addr} {fdS:FuncData} (XS:Fn K mg "_law_some" Dq ["_law_pen_here","_law_names_here","_law_most"] fS fdS) (GS:A8 P w K mg base Bt 2 fS fdS ["_law_pen_here","_law_names_here","_law_most"] KR) {fPL:Addr} {fdPL:FuncData} (XPL:Fn K mg "_law_prices" CT ["_law_pen_here","_law_case_here","_law_away","_law_levy"] fPL fdPL) (GPL:A8 P w K mg base Bt 3 fPL fdPL ["_law_pen_here","_law_case_here","_law_away","_law_levy"] Kh) {f:Addr} {fd:FuncData} (F:Dm K "_law_paper" "_law_paper" D9 f fd):A8 P w K mg base Bt 4 f fd ["_law_pen_here","_law_case_here","_law_away"] LW:=by
 refine F.ok FQ (fun vs H Q E h=>?_) (fun cdv A outer s H vs Q E hr h=>?_)
 ·obtain ⟨p,c,m,A0,n,xs,ws,Ap,Ar,x,d,rfl,_⟩:=h;rfl
 ·obtain ⟨p,c,m,A0,n,xs,ws,Ap,Ar,x,d,rfl,hP,cw,few,kn,k⟩:=h;have nd:=FQ.nd;have hu:=CN hr;have Jn:=hr.units;have big:100000 < sizeLine:=by decide
  refine ⟨_,(Af (O4 (ix:=3) (N:=["_law_place","_law_dues"]) (σ0:=fun _=>[none,none]) nd rfl (Or.inl rfl) rfl (AD.plain (by decide +kernel) (by decide +kernel) rfl (by decide +kernel)) (fun σ _=>Ba.none _ _ _ ["_law_place","_law_dues"] σ) (AR K rfl (Az (A7 K rfl) (pv 1) Ag (fun _ _=>rfl)))
   (fun s2 H C fp=>⟨(AO K rfl (n:=2) rfl (Aj (Ai (i:=0) (show (["_law_place","_law_dues"]:List Str).Nodup by decide +kernel) rfl (Or.inl rfl)) (Aj (Ai (i:=1) (show (["_law_place","_law_dues"]:List Str).Nodup by decide +kernel) rfl (Or.inl rfl)) AN))),AQ,(pv 0)⟩))
  (Af (Ao (i:=4) nd rfl (Or.inl rfl) (Az (Ge K rfl) (Bw (Aa (Az (A7 K rfl) (pv 1) Ag (fun _ _=>rfl)) (Aa (Ak (B7 K rfl) (by rfl) h_len PySem.boot_len (Aa (pv 3) Ac)) Ac))) (AA Dl (by rfl) h_int PyProof.Rows.boot_int (Aa (IU (G4 (Az (A7 K rfl) (pv 1) Ag (fun _ _=>rfl)))) Ac)) (fun _ _=>rfl)))
  (Af (Ao (i:=5) nd rfl (Or.inl rfl) (AA (Dw K rfl) (by rfl) h_tuple PyProof.Rows.boot_tuple (Aa (Ak Ec (by rfl) h_sorted PyProof.Rows.boot_sorted (Aa (Am GS (hr.mono (by decide)) (by rfl) XS.mg XS.F.kp XS.b .nil Ax (Aa (pv 0) (Aa (pv 3) (Aa (Ak (GZ rfl) (by rfl) h_min PyProof.Rows.boot_min (Aa (pv 4) (Aa (Ak (B7 K rfl) (by rfl) h_len PySem.boot_len (Aa (pv 3) Ac)) Ac))) Ac)))) Ac)) Ac)))
  (Af (Ao (i:=6) nd rfl (Or.inl rfl) (Am GT (hr.mono (by decide)) (by rfl) XT.mg XT.F.kp XT.b .nil Ax (Aa (pv 0) (Aa Ag Ac))))
  (Af (Ao (i:=7) nd rfl (Or.inl rfl) (Bw Ac))
  (Af (BC PassesOwn.never rfl (AR K rfl (Az (A7 K rfl) (pv 1) Ag (fun _ _=>rfl))) (AO K rfl rfl (Aj (Ai (i:=8) nd rfl (Or.inr rfl)) (Aj (Ai (i:=9) nd rfl (Or.inl rfl)) AN)))
  (Af (Ao (i:=10) nd rfl (Or.inl rfl) (Az (A7 K rfl) (pv 5) (Am GT (hr.mono (by decide)) (by rfl) XT.mg XT.F.kp XT.b .nil Ax (Aa (pv 0) (Aa (Ak (B7 K rfl) (by rfl) h_len PySem.boot_len (Aa (pv 5) Ac)) Ac))) (fun _ _=>rfl)))
  (Al (FX (Ht PySem.F.plainAttrs_list PySem.F.slot_list_append PySem.F.type_list_append C4 (pv 7) (Aa (AH (Aa (pv 8) (Aa (Az (Ge K rfl) (Bw (Aa (pv 10) (Aa (Az (A7 K rfl) (Ak (JU rfl Jn) (by rfl) h_min PyProof.Rows.boot_min (Aa (AS (N:=["_law_one","_law_away","_law_place"]) (σ0:=fun σ=>[none,some 2,some 8].map fun j=>j.bind fun j=>(σ[j]?).join) rfl (AD.caught (by rfl) (by decide +kernel) rfl (by decide +kernel) (by intro y hy; simp only [ZF,ZI,or_false] at hy; rcases hy with rfl | rfl <;> rfl)
   (by intro y hy e; simp only [ZF,ZI,or_false] at hy; rcases hy with rfl | rfl | rfl | rfl <;> first | exact ⟨_,rfl⟩ | cases e)) (fun σ _=>Ba.of [none,some 2,some 8] rfl (by
   intro i j x h1 h2;match i,h1,h2 with
   | 0,_,h2=>cases h2
   | 1,h1,h2=>cases h1; cases h2; exact ⟨rfl,.inl rfl,.inl rfl⟩
   | 2,h1,h2=>cases h1; cases h2; exact ⟨rfl,.inl rfl,.inl rfl⟩
   | n + 3,h1,_=>cases h1)) (AR K rfl (pv 5))
   (fun s2 H C fp=>⟨(Ai (i:=0) (show (["_law_one","_law_away","_law_place"]:List Str).Nodup by decide +kernel) rfl (Or.inl rfl)),AQ,(AH (Aa (AW hu (pv 1) (AH (Aa (pv 2) (Aa (pv 0) Ac))) (fun _ _=>rfl)) (Aa (pv 0) Ac)))⟩)) Ac)) Ag (fun _ _=>rfl)) Ac))) (pv 6) (fun _ _=>rfl)) Ac))) Ac))))))
  (Af (Ao (i:=11) nd rfl (Or.inl rfl) (As BG (Am GT (hr.mono (by decide)) (by rfl) XT.mg XT.F.kp XT.b .nil Ax (Aa (pv 0) (Aa (Az (Ge K rfl) (Bw (Aa Ag (Aa Ag (Aa Ag Ac)))) (Am GT (hr.mono (by decide)) (by rfl) XT.mg XT.F.kp XT.b .nil Ax (Aa (pv 0) (Aa Ag Ac))) (fun _ _=>rfl)) Ac))) (AA Dl (by rfl) h_int PyProof.Rows.boot_int (Aa (IU (Ih (Az (A7 K rfl) (pv 1) Ag (fun _ _=>rfl)))) Ac))))
  (Al (A4 (AH (Aa (pv 5) (Aa (AA (Dw K rfl) (by rfl) h_tuple PyProof.Rows.boot_tuple (Aa (pv 7) Ac)) (Aa (Am GPL (hr.mono (by decide)) (by rfl) XPL.mg XPL.F.kp XPL.b .nil Ax (Aa (pv 0) (Aa (pv 1) (Aa (pv 2) (Aa (pv 11) Ac))))) (Aa (pv 11) Ac)))))))))))))),?_⟩
  obtain ⟨t1,t2,D3,EX,hc,Eb,Et,DM,hd2⟩:=cw.ex;have OX:=A3 Et;have MT:=A3 hd2;have l1:=cw.l1;have l2:=cw.l2;have one:=cw.ok1.one;exists _,rfl,c,_,_,_,rfl,rfl,Ay.of hc,rfl,t1,rfl,⟨_,Ay.of Eb⟩
  refine AX Be (xs:=D3) (fun D i Aw H' acc=>∃ v0 v1:Option V,Aw=[v0,v1]/\Aq H H'/\H' D=some (.lst acc)/\acc=((Ap.map (·.1)).take i).map V.str/\acc.length=i)
   (by lia) (fun D hD=>⟨_,_,rfl,Ad hD,Ab,rfl,rfl⟩) (fun D i Aw H' acc hD ⟨v0,v1,_,sa,AK,_,al⟩=>⟨Ay.of (sa _ _ Eb),AK,al⟩) ?_ ?_
  ·rintro D i Aw H' acc x' B hD ex ⟨v0,v1,rfl,sa,AK,ea,al⟩ hB;obtain ⟨q,tt,eq,rfl,htt⟩:=Bb Et ex;exists tt,_,rfl,Ay.of (sa _ _ htt),rfl,_,_,rfl,_,_,rfl,rfl;refine ⟨_,rfl,hB _ _ _ AK ⟨_,_,rfl,fun b o e=>by rw [Ae (Ah e hD)]; exact sa _ _ e,Ab,?_,by rw [ZH,al]; rfl⟩⟩;rw [ea,ZR,ZL,eq,ZG];rfl
  rintro D Aw H1 acc hD ⟨v0,v1,rfl,s1,AK,ea,al⟩;have e1:D3.length=(Ap.map (·.1)).length:=by rw [ZA]; exact OX
  rw [ea,e1,ZY] at AK;clear ea al acc;have nDp:D ≠ p:=hP.ne hD;have P1:=hP.same s1;obtain ⟨mo,hmo,VU,mlim⟩:∃ mo:Int,Gv [x,.int (((Ap.map (·.1)).map V.str).length:Int)] (if decide (x=.non)=true then 1 else 0)=some (.int mo)/\1<=mo/\∀ j:Nat,(j:Int)<=mo->Gb x j=true:=by
   rcases cw.lim with ⟨rfl,_⟩ | ⟨i,rfl,_,i1,_⟩
   ·exact ⟨_,rfl,by rw [ZA,ZA]; lia,fun _ _=>rfl⟩
   ·have ne:¬ V.int i=V.non:=by intro e; cases e
    refine ⟨i,?_,i1,fun j hj=>decide_eq_true hj⟩;rw [decide_eq_false ne];rfl
  refine ⟨_,rfl,c,_,_,_,rfl,rfl,Ay.of (s1 _ _ hc),rfl,_,rfl,D,_,rfl,.inl (AZ.of AK),(by show 2<=sizeLine; lia),fun M hM=>?_⟩;have sM:=Ad (o:=.lst [x,.int (((Ap.map (·.1)).map V.str).length:Int)]) hM;have WX:(upd H1 M (.lst [x,.int (((Ap.map (·.1)).map V.str).length:Int)])) M=some (.lst [x,.int (((Ap.map (·.1)).map V.str).length:Int)]):=Ab;generalize upd H1 M (.lst [x,.int (((Ap.map (·.1)).map V.str).length:Int)])=H2 at sM WX ⊢;have s2:=s1.trans sM;refine ⟨_,rfl,c,_,_,_,rfl,rfl,Ay.of (s2 _ _ hc),rfl,.inr ⟨_,rfl,M,_,_,_,rfl,rfl,AZ.of WX,hmo,?_⟩⟩;have Iq:=sM _ _ AK;have P2:=P1.same sM;have ln:((Ap.map (·.1)).map V.str).length=Ap.length:=by rw [ZA,ZA]
  obtain ⟨mi,emi,mi1,mi2,mi3⟩:∃ mi:Int,mi=(if ((((Ap.map (·.1)).map V.str).length:Nat):Int) < mo then ((((Ap.map (·.1)).map V.str).length:Nat):Int) else mo)/\1<=mi/\mi<=30/\mi<=mo:=by
   exists _,rfl;rw [ln];split <;> lia
  refine ⟨_,rfl,_,rfl,_,rfl,_,rfl,D,_,rfl,.inl (AZ.of Iq),_,_,rfl,p,D,Ap.map (·.1),mi,by rw [emi]; rfl,P2,Iq,nDp,by rw [ZA]; lia,by rw [ZA]; lia,mi1,mi2,fun H3 E' ys zs0 P3 k3 hE hEE pm y1 ym=>?_⟩;have yl:ys.length<=Ap.length:=by
   have:=pm.length_eq;rw [ZH,ZA] at this;lia
  refine ⟨E',ys,rfl,AZ.of hEE,by lia,fun l ss hl YE srt=>⟨l,_,rfl,.inl ⟨AZ.of Ab,fun o ho=>?_⟩⟩⟩;have sl:=Ad (o:=.lst (ss.map V.str)) hl;have so:=Ad (o:=.tup (ss.map V.str)) ho;have hoo:(upd (upd H3 l (.lst (ss.map V.str))) o (.tup (ss.map V.str))) o=some (.tup (ss.map V.str)):=Ab;have Y6:=sl.trans so;generalize upd (upd H3 l (.lst (ss.map V.str))) o (.tup (ss.map V.str))=H4 at Y6 hoo ⊢;have sll:=YE.length_eq;have ysub:∀ y ∈ ys,y ∈ Ap.map (·.1):=fun y hy=>pm.mem_iff.mp (aT _ hy)
  have ssub:∀ y ∈ ss,y ∈ Ap.map (·.1):=fun y hy=>ysub y (YE.mem_iff.mp hy)
  have snd:ss.Nodup:=YE.nodup_iff.mpr (ba.mp (pm.nodup_iff.mpr cw.ok1.nd)).1;have ri:=Kq (EZ srt) snd;have sne:ss ≠ []:=fun e=>by rw [e] at sll; simp at sll; lia
  have lb:Gb x ss.length=true:=mlim _ (by lia);have ssx:∀ s ∈ ss,s ∈ xs:=fun s hs=>by
   obtain ⟨r,hr,e⟩:=ZO.mp (ssub s hs);have e':r.1=s:=e;rw [<-e'];exact cw.ok1.sub r hr
  have P4:=P3.same Y6;have k04:A9 p H H4:=((A9.of_same s2).trans k3).trans (A9.of_same Y6);refine ⟨_,rfl,p,2,rfl,P4,by decide,CM (by decide),fun e a1 b1 c1 e0 Sr=>?_⟩;have P5:A6 (upd H4 p (.lst (A1 a1 b1 c1))) p:=A6.set _ _ _;have YN:A9 p H4 (upd H4 p (.lst (A1 a1 b1 c1))):=A9.upd;have XQ:=k04.trans YN;have Zf:=F0 P4 YN _ _ hoo;generalize upd H4 p (.lst (A1 a1 b1 c1))=H5 at P5 YN XQ Zf ⊢;refine ⟨(by show 0<=sizeLine; lia),fun W0 Zo=>?_⟩;have nWp:W0 ≠ p:=P5.ne Zo;have X0:=F0 hP XQ;have XJ:=kn.keep hP XQ;have sW:=Ad (o:=.lst []) Zo;refine ⟨_,rfl,c,_,_,_,rfl,rfl,Ay.of (sW _ _ (X0 _ _ hc)),rfl,t2,rfl,⟨_,Ay.of (sW _ _ (X0 _ _ DM))⟩,Cb (xs:=EX) (fun i σ H'=>∃ (v8 v9 v10 v11:Option V) (wus:List V) (zs:List (Str × Str)),σ=[some (.ref p),some (.ref c),some (.ref A0),some (.ref D),some (.int mo),some (.ref o),some (.int e),some (.ref W0),v8,v9,v10,v11]/\A6 H' p/\A9 p H5 H'/\H' W0=some (.lst wus)/\AE H' wus (zs.map Iy)/\zs.length=i/\zs.map (·.1)=(Ar.take i).map (·.1)/\∀ z ∈ zs,z.2 ∈ ss)
   ⟨_,_,_,_,[],[],rfl,P5.same sW,A9.of_same sW,Ab,.nil,rfl,rfl,fun z hz=>nomatch hz⟩ (fun i σ H' _ WT=>?_) (fun i v σ H' hv WT rt bk N hN=>?_) (fun σ H6 WT=>?_)⟩
  ·obtain ⟨v8,v9,v10,v11,wus,zs,rfl,P6,k6,hW,dw,zl,zn,zss⟩:=WT;exact Ay.of (F0 P5 k6 _ _ (X0 _ _ DM))
  ·obtain ⟨v8,v9,v10,v11,wus,zs,rfl,P6,k6,hW,dw,zl,zn,zss⟩:=WT;obtain ⟨r,tt,er,rfl,htt⟩:=Bb hd2 hv;have il:i < EX.length:=(ZN.mp hv).1;have t6:=F0 P5 k6;have wl:=FI dw;exists tt,_,rfl,Ay.of (t6 _ _ (X0 _ _ htt)),rfl,_,_,rfl,_,_,rfl,rfl;have ho6:=t6 _ _ Zf;refine ⟨_,rfl,_,rfl,_,rfl,o,_,rfl,.inr (Ay.of ho6),p,_,rfl,P6,?_,CM ?_,fun e2 a2 b2 c2 e20 e21=>?_⟩
   ·rw [ZA]; lia
   ·rw [ZA]; lia
   rw [ZA] at e21;obtain ⟨g,rfl⟩:∃ g:Nat,e2=(g:Int):=⟨e2.toNat,by lia⟩
   have hg:g < ss.length:=by lia
   have P7:A6 (upd H' p (.lst (A1 a2 b2 c2))) p:=A6.set _ _ _;have W2:A9 p H' (upd H' p (.lst (A1 a2 b2 c2))):=A9.upd;have t7:=F0 P6 W2;have Zn:=W2 _ _ nWp hW;generalize upd H' p (.lst (A1 a2 b2 c2))=H7 at P7 W2 t7 Zn ⊢;have Ze:=t7 _ _ ho6;have YL:=(XJ.keep P5 k6).keep P6 W2;exists o,_,_,.str ss[g],rfl,rfl,Ay.of Ze,CA (by rw [ZL,Z9 hg]; rfl);have gm:ss[g] ∈ ss:=aN hg;exists _,rfl,.inl ⟨rfl,_,AZ.of Zn⟩,_,rfl,_,rfl,_,rfl,o,rfl,⟨_,Ay.of Ze⟩
   have rx:r.1 ∈ xs:=cw.ok2.sub r (ZE er);refine AX Be (xs:=ss.map V.str) (fun D2 j Aw H2 acc=>∃ (v0:Option V) (ks:List (Int × Str)),Aw=[v0,some (.ref A0),some (.str r.1)]/\Aq H7 H2/\H2 D2=some (.lst acc)/\acc.length=j/\ks.length=j/\(∀ (q:Nat) w kk,acc[q]? = some w->ks[q]? = some kk->J8 H2 w kk)/\∀ kk ∈ ks,kk.2 ∈ ss)
    (by rw [ZA]; lia) (fun D2 Iq=>⟨_,[],rfl,Ad Iq,Ab,rfl,rfl,(fun q w kk e=>by simp at e),fun kk hk=>nomatch hk⟩)
    (fun D2 j Aw H2 acc Iq ⟨v0,ks,_,sb,GX,Xr,_⟩=>⟨Ay.of (sb _ _ Ze),GX,Xr⟩) ?_ ?_
   ·rintro D2 j Aw H2 acc x' Bk Iq ex ⟨v0,ks,rfl,sb,GX,Xr,kl,kp,km⟩ hBk;obtain ⟨y,ey,rfl⟩:∃ y,ss[j]? = some y/\x'=.str y:=by
     rw [ZL] at ex;cases z:ss[j]? with
     | none=>rw [z] at ex; cases ex
     | some y=>rw [z] at ex; exact ⟨y,rfl,(ZZ.inj ex).symm⟩
    have ym':=ZE ey;refine ⟨_,rfl,_,rfl,_,rfl,(by show 2<=sizeLine; lia),fun T hT=>?_⟩;have sT:=Ad (o:=.tup [.str r.1,.str y]) hT;obtain ⟨g2,d0,d1⟩:=(YL.same (sb.trans sT)).get rx (ssx y ym') (t:=T) Ab;generalize upd H2 T (.tup [.str r.1,.str y])=H8 at sT g2 ⊢;refine ⟨A0,_,rfl,g2,_,rfl,(by show 2<=sizeLine; lia),fun T2 Q5=>?_⟩;have sT2:=Ad (o:=.tup [.int (dst ws y r.1),.str y]) Q5;have WL:(upd H8 T2 (.tup [.int (dst ws y r.1),.str y])) T2=some (.tup [.int (dst ws y r.1),.str y]):=Ab;generalize upd H8 T2 (.tup [.int (dst ws y r.1),.str y])=H9 at sT2 WL ⊢;have Y7:=sT.trans sT2;have hDT:=Y7 _ _ GX;have keep:∀ b ys,H9 b=some (.tup ys)->(upd H9 D2 (.lst (acc ++ [.ref T2]))) b=some (.tup ys):=fun b ys z=>by
     rw [Ae (Cy z hDT (fun q=>by cases q))];exact z
    refine hBk _ _ _ hDT ⟨_,ks ++ [(dst ws y r.1,y)],rfl,fun b o' z=>by rw [Ae (Ah z Iq)]; exact Y7 _ _ (sb _ _ z),Ab,by rw [ZH,Xr]; rfl,by rw [ZH,kl]; rfl,fun q w kk e1 e2=>?_,fun kk hk=>?_⟩
    ·by_cases hq:q < acc.length
     ·rw [aF hq] at e1;rw [aF (by lia)] at e2;exact (kp q w kk e1 e2).same fun b ys z=>keep b ys (Y7 _ _ z)
     ·have VX:=(ZN.mp e1).1;rw [ZH,b8] at VX;rw [ay (by lia),show q - acc.length=0 by lia,aJ] at e1;rw [ay (by lia),show q - ks.length=0 by lia,aJ] at e2;cases e1
      cases e2
      exact ⟨T2,rfl,keep _ _ WL⟩
    ·rcases af.mp hk with hk | hk
     ·exact km kk hk
     ·rw [aa.mp hk];exact ym'
   rintro D2 Aw H8 acc Iq ⟨v0,ks,rfl,sb,GX,Xr,kl,kp,km⟩;rw [ZA] at Xr kl;refine ⟨D2,acc,ks,rfl,GX,by lia,fun z=>by rw [z] at kl; simp at kl; lia,kp,fun v kk hkk hpr _=>?_⟩;obtain ⟨tv,rfl,htv⟩:=hpr;have km':=km kk hkk;refine ⟨tv,_,_,_,rfl,rfl,Ay.of htv,rfl,(by show 2<=sizeLine; lia),fun M2 Ql=>?_⟩;have sM2:=Ad (o:=.lst [.str ss[g],.str kk.2]) Ql;have WW:(upd H8 M2 (.lst [.str ss[g],.str kk.2])) M2=some (.lst [.str ss[g],.str kk.2]):=Ab;generalize upd H8 M2 (.lst [.str ss[g],.str kk.2])=H9 at sM2 WW ⊢;obtain ⟨hs,ehs,hsm⟩:∃ hs:Str,Gv [V.str ss[g],.str kk.2] e=some (.str hs)/\hs ∈ ss:=by
    have:e=0\/e=1:=by lia
    rcases this with rfl | rfl
    ·exact ⟨_,rfl,gm⟩
    ·exact ⟨_,rfl,km'⟩
   refine ⟨_,rfl,M2,_,_,_,rfl,rfl,AZ.of WW,ehs,(by show 2<=sizeLine; lia),fun T3 Zq=>?_⟩;have sT3:=Ad (o:=.tup [.str r.1,.str hs]) Zq;have WK:(upd H9 T3 (.tup [.str r.1,.str hs])) T3=some (.tup [.str r.1,.str hs]):=Ab;generalize upd H9 T3 (.tup [.str r.1,.str hs])=Oa at sT3 WK ⊢;have SH:=sb.trans (sM2.trans sT3);have WJ:=SH _ _ Zn;exists W0,_,_,rfl,rfl,WJ,by lia
   have tp:∀ b ys,Oa b=some (.tup ys)->(upd Oa W0 (.lst (wus ++ [.ref T3]))) b=some (.tup ys):=fun b ys z=>by
    rw [Ae (Cy z WJ (fun q=>by cases q))];exact z
   refine hN _ _ ⟨_,_,_,_,wus ++ [.ref T3],zs ++ [(r.1,hs)],rfl,(P7.same SH).other nWp,fun b o' hb z=>by rw [Ae (Ah z Zo)]; exact SH _ _ (W2 _ _ hb (k6 _ _ hb z)),Ab,?_,by rw [ZH,zl]; rfl,?_,fun z hz=>?_⟩
   ·rw [ZG];exact CG (EW (fun b ys z=>tp b ys (SH _ _ (t7 _ _ z))) dw) (.cons (LI (z:=(r.1,hs)) (tp _ _ WK)) .nil)
   ·rw [ZG,zn,ZR,er,ZG];rfl
   ·rcases af.mp hz with hz | hz
    ·exact zss z hz
    ·rw [aa.mp hz];exact hsm
  obtain ⟨v8,v9,v10,v11,wus,zs,rfl,P6,k6,hW,dw,zl,zn,zss⟩:=WT;rw [MT,ZY] at zn;have k06:=XQ.trans k6;have t06:=F0 hP k06;refine ⟨_,rfl,(by show 3<=sizeLine; lia),fun M3 hM3=>?_⟩;have Y3:=Ad (o:=.lst [.int 1,.int 4,.int 30]) hM3;have WV:(upd H6 M3 (.lst [.int 1,.int 4,.int 30])) M3=some (.lst [.int 1,.int 4,.int 30]):=Ab;generalize upd H6 M3 (.lst [.int 1,.int 4,.int 30])=H7 at Y3 WV ⊢;have P7:=P6.same Y3;have nM3:M3 ≠ p:=P6.ne hM3;refine ⟨_,rfl,p,3,rfl,P7,by decide,CM (by decide),fun e3 a3 b3 c3 e30 e31=>?_⟩;obtain ⟨mm,hmm,mm1,mm2⟩:∃ mm:Int,Gv [V.int 1,.int 4,.int 30] e3=some (.int mm)/\1<=mm/\mm<=30:=by
   have:e3=0\/e3=1\/e3=2:=by lia
   rcases this with rfl | rfl | rfl <;> exact ⟨_,rfl,by decide,by decide⟩
  have P8:A6 (upd H7 p (.lst (A1 a3 b3 c3))) p:=A6.set _ _ _;have Tf:A9 p H7 (upd H7 p (.lst (A1 a3 b3 c3))):=A9.upd;have WU:=Tf _ _ nM3 WV;generalize upd H7 p (.lst (A1 a3 b3 c3))=H8 at P8 Tf WU ⊢;refine ⟨M3,_,_,_,rfl,rfl,AZ.of WU,hmm,p,mm,rfl,P8,by lia,CM (by lia),fun e4 a4 b4 c4 e40 e41=>?_⟩;have P9:A6 (upd H8 p (.lst (A1 a4 b4 c4))) p:=A6.set _ _ _;have Ul:A9 p H8 (upd H8 p (.lst (A1 a4 b4 c4))):=A9.upd;generalize upd H8 p (.lst (A1 a4 b4 c4))=H9 at P9 Ul ⊢;have Um:A9 p H6 H9:=((A9.of_same Y3).trans Tf).trans Ul;have YO:=k06.trans Um;have t09:=F0 hP YO;have t69:=F0 P6 Um;have cw9:=cw.keepT t09;have kn9:=kn.keep hP YO;have Zm:=Um _ _ nWp hW;have dw9:=EW t69 dw;have ho9:=t69 _ _ (F0 P5 k6 _ _ Zf);refine ⟨_,rfl,c,_,_,_,rfl,rfl,Ay.of (t09 _ _ hc),rfl,.inr ⟨_,rfl,_,_,rfl,rfl,.inl ⟨by lia,by lia⟩,?_⟩⟩;obtain ⟨lv,elv,lok⟩:∃ lv:Int,lv=e4 * (if (!decide (x=.non))=true then 1 else 0)/\NZ x lv:=by
   exists _,rfl;by_cases z:x=.non
   ·rw [decide_eq_true z];exact ⟨by simp,by simp,fun _=>by simp⟩
   ·rw [decide_eq_false z];exact ⟨by simp; lia,by simp; lia,fun h=>absurd h z⟩
  refine ⟨_,rfl,_,rfl,W0,_,rfl,.inl ⟨AZ.of Zm,fun tw htw=>?_⟩⟩;have MU:=Ad (o:=.tup wus) htw;have hTW:(upd H9 tw (.tup wus)) tw=some (.tup wus):=Ab;generalize upd H9 tw (.tup wus)=Oa at MU hTW ⊢;refine ⟨_,rfl,_,rfl,_,rfl,_,rfl,p,c,m,A0,n,xs,ws,Ap,Ar,x,d,lv,by rw [elv]; rfl,P9.same MU,cw9.same MU,few,kn9.same MU,lok.1,lok.2.1,fun QA T qs P11 k11 Z4 Y1 _=>?_⟩;have t11:=F0 (P9.same MU) k11;refine ⟨_,rfl,(by show 4<=sizeLine; lia),fun pp hpp=>?_⟩;have Km:=Ad (o:=.tup [.ref o,.ref tw,.ref T,.int lv]) hpp;have Yz:∀ b ys,H9 b=some (.tup ys)->(upd QA pp (.tup [.ref o,.ref tw,.ref T,.int lv])) b=some (.tup ys):=fun b ys z=>Km _ _ (t11 _ _ (MU _ _ z))
  have pp':(upd QA pp (.tup [.ref o,.ref tw,.ref T,.int (e4 * (if (!decide (x=.non))=true then 1 else 0))])) pp=some (.tup [.ref o,.ref tw,.ref T,.int lv]):=by rw [Ab,elv]
  rw [elv] at Km Yz;exact k _ pp o tw T ss zs qs lv (P11.same Km) (((YO.trans (A9.of_same MU)).trans k11).trans (A9.of_same Km)) ⟨Z4.same Km,pp',Yz _ _ ho9,sne,ri,ssub,lb,⟨wus,Km _ _ (t11 _ _ hTW),EW Yz dw9⟩,zn,zss,lok,Y1⟩
end
section
variable {P:Program} {w:World} {K:ZD} {mg:Str->Option Value} {base:Heap}
theorem Ll (h_bool:mg "bool"=none) (h_isinstance:mg "isinstance"=none) (h_sum:mg "sum"=none) (h_tuple:mg "tuple"=none) (h_zip:mg "zip"=none) {fLB:Addr} {fdLB:FuncData} (XLB:Fn K mg "lets_by" Fc ["case","paper"] fLB fdLB) (GLB:A8 P w K mg base Bt 7 fLB fdLB ["case","paper"] Rb) {fSP:Addr} {fdSP:FuncData} (XSP:Fn K mg "span" Lc ["case","paper"] fSP fdSP) (GSP:A8 P w K mg base Bt 5 fSP fdSP ["case","paper"] QV) {fWL:Addr} {fdWL:FuncData} (XWL:Fn K mg "_law_low" Fe ["_law_case_here","_law_prices_here","_law_levy"] fWL fdWL) (GWL:A8 P w K mg base Bt 1 fWL fdWL ["_law_case_here","_law_prices_here","_law_levy"] KU) {fCO:Addr} {fdCO:FuncData} (XCO:Fn K mg "_law_cost" Ek ["_law_case_here","_law_away","_law_opening"] fCO fdCO) (GCO:A8 P w K mg base Bt 1 fCO fdCO ["_law_case_here","_law_away","_law_opening"] Ow) {fOP:Addr} {fdOP:FuncData} (XOP:Fn K mg "_law_openings" Cq ["_law_case_here"] fOP fdOP) (GOP:A8 P w K mg base Bt 1 fOP fdOP ["_law_case_here"] TY) {f:Addr} {fd:FuncData} (F:Dm K "_law_right" "_law_right" D8 f fd):A8 P w K mg base Bt 8 f fd ["_law_case_here","_law_away","_law_paper_here"] LV:=by
 refine F.ok FP (fun vs H Q E h=>?_) (fun cdv A outer s H vs Q E hr h=>?_)
 ·obtain ⟨c,m,pp,o,t,T,A0,n,xs,ws,Ap,Ar,x,d,ss,zs,qs,lv,rfl,_⟩:=h;rfl
 ·obtain ⟨c,m,pp,o,t,T,A0,n,xs,ws,Ap,Ar,x,d,ss,zs,qs,lv,rfl,pa,kn,k⟩:=h;have nd:=FP.nd;have hu:=CN hr;have Jn:=hr.units;have big:100000 < sizeLine:=by decide
  refine ⟨_,(Af (Dr (pv 2) (AO K rfl rfl (Aj (Ai (i:=3) nd rfl (Or.inr rfl)) (Aj (Ai (i:=4) nd rfl (Or.inl rfl)) (Aj (Ai (i:=5) nd rfl (Or.inl rfl)) (Aj (Ai (i:=6) nd rfl (Or.inl rfl)) AN))))))
  (Af (Cr (By Mn (Am GLB (hr.mono (by decide)) (by rfl) XLB.mg XLB.F.kp XLB.b .nil Ax (Aa (pv 0) (Aa (pv 2) Ac))) E4 (Bx _))
  (Al (A4 E4))
  Bo)
  (Af (Ao (i:=7) nd rfl (Or.inr rfl) (Am GSP (hr.mono (by decide)) (by rfl) XSP.mg XSP.F.kp XSP.b .nil Ax (Aa (pv 0) (Aa (pv 2) Ac))))
  (Af (Ao (i:=8) nd rfl (Or.inl rfl) (Ak (B6 rfl) (by rfl) h_sum PyProof.Rows.boot_sum (Aa (AS (N:=["_law_place","_law_dues","_law_opening"]) (σ0:=fun σ=>[none,none,some 3].map fun j=>j.bind fun j=>(σ[j]?).join) rfl (AD.caught (by rfl) (by decide +kernel) rfl (by decide +kernel) (by intro y hy; simp only [ZF,ZI,or_false] at hy; rcases hy with rfl <;> rfl)
   (by intro y hy e; simp only [ZF,ZI,or_false] at hy; rcases hy with rfl | rfl | rfl | rfl <;> first | exact ⟨_,rfl⟩ | cases e)) (fun σ _=>Ba.of [none,none,some 3] rfl (by
   intro i j x h1 h2;match i,h1,h2 with
   | 0,_,h2=>cases h2
   | 1,_,h2=>cases h2
   | 2,h1,h2=>cases h1; cases h2; exact ⟨rfl,.inl rfl,.inl rfl⟩
   | n + 3,h1,_=>cases h1)) (AR K rfl (Az (A7 K rfl) (pv 0) Ag (fun _ _=>rfl)))
   (fun s2 H C fp=>⟨(AO K rfl (n:=2) rfl (Aj (Ai (i:=0) (show (["_law_place","_law_dues","_law_opening"]:List Str).Nodup by decide +kernel) rfl (Or.inl rfl)) (Aj (Ai (i:=1) (show (["_law_place","_law_dues","_law_opening"]:List Str).Nodup by decide +kernel) rfl (Or.inl rfl)) AN))),(Ig (By (Nx K rfl) (pv 0) (pv 2) (by rfl))),(pv 1)⟩)) Ac)))
  (Af (BC PassesOwn.never rfl (O6 true (by rfl) h_zip (Aa (pv 4) (Aa (Az (A7 K rfl) (pv 0) Ag (fun _ _=>rfl)) Ac))) (AO K rfl rfl (Aj (Ai (i:=9) nd rfl (Or.inl rfl)) (Aj (Ai (i:=10) nd rfl (Or.inl rfl)) AN)))
  (Al (Ao (i:=8) nd rfl (Or.inl rfl) (As Bg (pv 8) (As BG (Az (A7 K rfl) (pv 10) Ag (fun _ _=>rfl)) (AW hu (pv 1) (pv 9) (fun _ _=>rfl)))))))
  (Af (Cr (Hr (DJ (EI (Ak (Gn K rfl) (by rfl) h_isinstance PyProof.Rows.boot_isinstance (Aa (pv 7) (Aa (Dd (v:=.ty "tuple") (by rfl) h_tuple PyProof.Rows.boot_tuple rfl) Ac))))) (EH (By (PM Jn) (pv 7) (AH (Aa (Am GWL (hr.mono (by decide)) (by rfl) XWL.mg XWL.F.kp XWL.b .nil Ax (Aa (pv 0) (Aa (pv 5) (Aa (pv 6) Ac)))) (Aa (pv 8) Ac))) (Bx _)))).pt
  (Al (A4 E4))
  Bo)
  (Af (Cr (Hr (By Kv E4 (AS (N:=["_law_number"]) (σ0:=fun _=>[none]) rfl (AD.plain (by decide +kernel) (by decide +kernel) rfl (by decide +kernel)) (fun σ _=>Ba.none _ _ _ ["_law_number"] σ) (AR K rfl (pv 7))
   (fun s2 H C fp=>⟨(Ai (i:=0) (show (["_law_number"]:List Str).Nodup by decide +kernel) rfl (Or.inl rfl)),AQ,(Ak (Gn K rfl) (by rfl) h_isinstance PyProof.Rows.boot_isinstance (Aa (pv 0) (Aa (Dd (v:=.ty "bool") (by rfl) h_bool PyProof.Rows.boot_bool rfl) Ac)))⟩)) (by rfl)) (EH (By Ug (Am GCO (hr.mono (by decide)) (by rfl) XCO.mg XCO.F.kp XCO.b .nil Ax (Aa (pv 0) (Aa (pv 1) (Aa (pv 3) Ac)))) (Az (A7 K rfl) (pv 7) Ag (fun _ _=>rfl)) (Bx _)))).pt
  (Al (A4 E4))
  Bo)
  (Al (A4 (Ct (PN (Nat.lt_of_succ_lt hu)) (AS (N:=["_law_one","_law_case_here","_law_away","_law_told"]) (σ0:=fun σ=>[none,some 0,some 1,some 7].map fun j=>j.bind fun j=>(σ[j]?).join) rfl (AD.caught (by rfl) (by decide +kernel) rfl (by decide +kernel) (by intro y hy; simp only [ZF,ZI,or_false] at hy; rcases hy with rfl | rfl | rfl <;> rfl)
   (by intro y hy e; simp only [ZF,ZI,or_false] at hy; rcases hy with rfl | rfl | rfl | rfl | rfl | rfl <;> first | exact ⟨_,rfl⟩ | cases e)) (fun σ _=>Ba.of [none,some 0,some 1,some 7] rfl (by
   intro i j x h1 h2;match i,h1,h2 with
   | 0,_,h2=>cases h2
   | 1,h1,h2=>cases h1; cases h2; exact ⟨rfl,.inl rfl,.inl rfl⟩
   | 2,h1,h2=>cases h1; cases h2; exact ⟨rfl,.inl rfl,.inl rfl⟩
   | 3,h1,h2=>cases h1; cases h2; exact ⟨rfl,.inl rfl,.inl rfl⟩
   | n + 4,h1,_=>cases h1)) (Mh K rfl (Am GOP (hr.mono (by decide)) (by rfl) XOP.mg XOP.F.kp XOP.b .nil Ax (Aa (pv 0) Ac)))
   (fun s2 H C fp=>⟨(Ai (i:=0) (show (["_law_one","_law_case_here","_law_away","_law_told"]:List Str).Nodup by decide +kernel) rfl (Or.inl rfl)),(Ig (By O8 (Am GCO (hr.mono (by decide)) (by rfl) XCO.mg XCO.F.kp XCO.b .nil Ax (Aa (pv 1) (Aa (pv 2) (Aa (pv 0) Ac)))) (Az (A7 K rfl) (pv 3) Ag (fun _ _=>rfl)) (Bx _))),(pv 0)⟩)) (Bw Ac) (Bx _))))))))))),?_⟩
  obtain ⟨us,ht,du⟩:=pa.wk;obtain ⟨t1,t2,D3,EX,hc,Eb,Et,DM,hd2⟩:=pa.cp.cw.ex;have ul:=FI du;have OX:=A3 Et;have MT:=A3 hd2;have zl:=pa.zl;have l1:=pa.cp.cw.l1;have l2:=pa.cp.cw.l2;have l10:=pa.l10;have cw:=pa.cp.cw;exists _,rfl,pp,_,rfl,Ay.of pa.pap,rfl,_,_,rfl,_,_,rfl,_,_,rfl,_,_,rfl,rfl;refine ⟨_,rfl,_,rfl,c,m,pp,o,t,T,n,xs,ws,Ap,Ar,x,d,ss,zs,qs,lv,rfl,pa,fun H1 s1=>⟨_,_,rfl,rfl,_,rfl,?_⟩⟩;refine BZ ?_;refine ⟨_,rfl,_,rfl,c,m,pp,o,t,T,n,xs,ws,Ap,Ar,x,d,ss,zs,qs,lv,rfl,pa.same s1,fun H2 S s2 hS=>?_⟩;have Km:=s1.trans s2;obtain ⟨lo,elo⟩:∃ lo,lo=Qc x qs lv:=⟨_,rfl⟩
  obtain ⟨hi,ehi⟩:∃ hi,hi=(ss.map (BI Ap)).sum + Ef ws Ar zs:=⟨_,rfl⟩
  rw [<-elo,<-ehi] at hS;exists _,rfl,c,_,_,_,rfl,rfl,Ay.of (Km _ _ hc),rfl,t1,rfl,⟨_,Ay.of (Km _ _ Eb)⟩
  refine DF Be (xs:=D3) (fun D i σ H' acc=>∃ v0 v1:Option V,σ=[v0,v1,some (.ref o)]/\Aq H2 H'/\H' D=some (.lst acc)/\acc=(((Ap.take i).filter fun r=>decide (r.1 ∈ ss)).map (·.2)).map V.int/\acc.length<=i)
   (by lia) (fun D hD=>⟨_,_,rfl,Ad hD,Ab,rfl,ZJ _⟩)
   (fun D i σ H' acc hD ⟨v0,v1,_,sa,AK,_,al⟩=>⟨Ay.of (sa _ _ (Km _ _ Eb)),AK,al⟩) ?_ ?_
  ·rintro D i σ H' acc x' B N hD ex ⟨v0,v1,rfl,sa,AK,ea,al⟩ hB hN;obtain ⟨u,tu,eu,rfl,htu⟩:=Bb Et ex;exists tu,_,rfl,Ay.of (sa _ _ (Km _ _ htu)),rfl,_,_,rfl,_,_,rfl,rfl;exists _,rfl,_,rfl,o,_,rfl,.inr (Ay.of (sa _ _ (Km _ _ pa.op))),rfl,GY ss,_,rfl;rw [Jm];refine CL (fun hz=>?_) (fun hz=>?_)
   ·have MW:u.1 ∈ ss:=by simpa using hz
    exists _,rfl;refine hB _ _ _ AK ⟨_,_,rfl,fun b o' z=>by rw [Ae (Ah z hD)]; exact sa _ _ z,Ab,?_,by rw [ZH]; simp; lia⟩;rw [ea,ZR,eu,bx,ZG,ZG];simp [MW]
   ·have MW:¬ u.1 ∈ ss:=by simpa using hz
    refine hN _ _ ⟨_,_,rfl,sa,AK,?_,by lia⟩;rw [ea,ZR,eu,bx,ZG,ZG];simp [MW]
  rintro D σ H3 acc hD ⟨v0,v1,rfl,s3,AK,ea,al⟩;rw [OX,ZY] at ea;exists D,_,rfl,AZ.of (by rw [AK,ea]);rw [Kd cw.ok1.nd pa.ri.nodup pa.sub];have Q3:=Km.trans s3;refine ⟨_,rfl,_,rfl,c,_,_,_,rfl,rfl,Ay.of (Q3 _ _ hc),rfl,t,t2,rfl,⟨_,Ay.of (Q3 _ _ ht)⟩,⟨_,Ay.of (Q3 _ _ DM)⟩,Qp (bb:=true) (xs:=us) (ys:=EX) (by lia) (fun i σ H'=>(∃ v9 v10:Option V,σ=[some (.ref c),some (.ref A0),some (.ref pp),some (.ref o),some (.ref t),some (.ref T),some (.int lv),some (.ref S),some (.int ((ss.map (BI Ap)).sum + (((Ar.zip zs).take i).map fun p=>p.1.2 * dst ws p.2.2 p.1.1).sum)),v9,v10])/\Aq H3 H')
   ⟨⟨_,_,by rw [cP,cD,List.sum_nil,cI]; rfl⟩,Aq.refl _⟩ (fun i σ H' _ hP=>⟨Ay.of (hP.2 _ _ (Q3 _ _ ht)),Ay.of (hP.2 _ _ (Q3 _ _ DM))⟩) (fun i xw y σ H' Tz hxw hy hP hTz=>?_) (fun σ H4 hP=>?_)⟩
  ·obtain ⟨⟨v9,v10,rfl⟩,sa⟩:=hP;obtain ⟨z,tz,ez,rfl,htz⟩:=Fl du hxw;obtain ⟨r,tr,er,rfl,htr⟩:=Bb hd2 hy;obtain ⟨r',Xk,rz⟩:=QC pa.zn ez;rw [er] at Xk;cases Xk
   have rm:=ZE er;have zm:=pa.zs' z (ZE ez);have q1:=Ad (o:=.tup [.ref tz,.ref tr]) hTz;have K1:(upd H' Tz (.tup [.ref tz,.ref tr])) Tz=some (.tup [.ref tz,.ref tr]):=Ab;generalize upd H' Tz (.tup [.ref tz,.ref tr])=H5 at q1 K1 ⊢;have s5:=sa.trans q1;have Y8:=Q3.trans s5;exists Tz,_,rfl,Ay.of K1,rfl,_,_,rfl,_,_,rfl,rfl;obtain ⟨g2,d0,d1⟩:=(kn.same Y8).get (y:=z.1) (z:=z.2) (by rw [<-rz]; exact cw.ok2.sub r rm) (pa.inx _ zm).1 (Y8 _ _ htz);have r1:=(cw.ok2.lo r rm).1;have r4:=pa.cp.few r rm;exists _,rfl,_,rfl,tr,_,_,_,rfl,rfl,Ay.of (Y8 _ _ htr),rfl,_,rfl,_,rfl,A0,_,rfl,g2,_,_,rfl,rfl,.inl ⟨by lia,by lia⟩,_,_,rfl,rfl;refine ⟨⟨some (.ref tz),some (.ref tr),?_⟩,s5⟩;rw [FJ er ez,dz,eW,<-cy,rz];rfl
  obtain ⟨⟨v9,v10,rfl⟩,s4⟩:=hP;have zt:((Ar.zip zs).take us.length)=Ar.zip zs:=aK (by rw [bH]; lia);rw [zt];have eh:(ss.map (BI Ap)).sum + ((Ar.zip zs).map fun p=>p.1.2 * dst ws p.2.2 p.1.1).sum=hi:=ehi.symm;rw [eh];have Wq:=Q3.trans s4;have hS4:=s4 _ _ (s3 _ _ hS);exists _,rfl,_,"tuple",_,_,rfl,.tup hS4,rfl,_,rfl;refine BZ ?_;refine ⟨_,rfl,_,rfl,_,rfl,_,rfl,c,m,T,n,xs,ws,Ap,Ar,qs,x,d,lv,rfl,pa.cp.same Wq,pa.lev,fun H5 s5=>?_⟩;rw [<-elo];refine ⟨_,rfl,(by show 2<=sizeLine; lia),fun Z hZ=>?_⟩;have q6:=Ad (o:=.tup [.int lo,.int hi]) hZ;have hZZ:(upd H5 Z (.tup [.int lo,.int hi])) Z=some (.tup [.int lo,.int hi]):=Ab;generalize upd H5 Z (.tup [.int lo,.int hi])=H6 at q6 hZZ ⊢;have s46:=s5.trans q6;have s16:=Wq.trans s46;have Yg:=s46 _ _ hS4;exists .tuple [.int lo,.int hi],.tuple [.int lo,.int hi],.tup Yg (.cons (.int _) (.cons (.int _) .nil)),.tup hZZ (.cons (.int _) (.cons (.int _) .nil)),rfl,rfl,(by show 1<=60; decide),_,rfl;have eqv:(!PyData.eqv (.tuple [.int lo,.int hi]) (.tuple [.int lo,.int hi]))=false:=by simp [PyData.eqv,PyData.eqvAll]
  rw [eqv];refine BZ ?_;exists _,rfl,S,rfl,⟨_,Ay.of Yg⟩
  refine AX Be (xs:=[.int lo,.int hi]) (fun D2 i Aw H' acc=>∃ v0:Option V,Aw=[v0]/\Aq H6 H'/\H' D2=some (.lst acc)/\acc=(fQ i false).map V.bl/\acc.length=i)
   (by show 2 < sizeLine; lia) (fun D2 Iq=>⟨_,rfl,Ad Iq,Ab,rfl,rfl⟩) (fun D2 i Aw H' acc Iq ⟨v0,_,sa,AK,_,al⟩=>⟨Ay.of (sa _ _ Yg),AK,al⟩) ?_ ?_
  ·rintro D2 i Aw H' acc x' B Iq ex ⟨v0,rfl,sa,GX,ea,al⟩ hB;obtain ⟨q,rfl⟩:∃ q:Int,x'=.int q:=by
    match i,ex with
    | 0,ex=>exact ⟨_,(ZZ.inj ex).symm⟩
    | 1,ex=>exact ⟨_,(ZZ.inj ex).symm⟩
    | j + 2,ex=>simp at ex
   exists _,rfl,_,"bool",_,_,rfl,.int _,rfl;refine hB _ _ _ GX ⟨_,rfl,fun b o' z=>by rw [Ae (Ah z Iq)]; exact sa _ _ z,Ab,?_,by rw [ZH,al]; rfl⟩;rw [ea,List.replicate_succ',ZG];rfl
  rintro D2 Aw H7 acc Iq ⟨v0,rfl,sb,GX,ea,al⟩;subst ea;exists D2,_,rfl,.inl (AZ.of GX),rfl,rfl,_,rfl;refine BZ ?_;have X3:=s16.trans sb;have hS7:=sb _ _ Yg;refine ⟨_,rfl,_,rfl,_,rfl,c,m,A0,o,n,xs,ws,Ap,Ar,x,d,ss,rfl,cw.same X3,pa.cp.few,kn.same X3,X3 _ _ pa.op,pa.opn,by lia,fun H8 tot s8 tt=>?_⟩;have hle:tot<=hi:=by
   obtain ⟨ds,wd,rfl⟩:=tt;rw [ehi];have:=HA zl wd (fun r hr=>by have:=(cw.ok2.lo r hr).1; lia) pa.zs' (fun r hr s hs=>(kn.dst (pa.inx s hs).1 (cw.ok2.sub r hr)).1);lia
  exists _,rfl,S,_,_,_,rfl,rfl,Ay.of (s8 _ _ hS7),rfl,_,_,rfl,rfl,_,rfl;refine CL (fun z=>absurd (of_decide_eq_true z) (by lia)) (fun _=>?_);have s18:=X3.trans s8;have hS8:=s8 _ _ hS7;refine ⟨_,rfl,c,Ap.map (·.1),x,d,rfl,(cw.same s18).sites,fun H9 L vs os s9 hL hLL tU opn o1024=>?_⟩;have s19:=s18.trans s9;have hul:=tU.len;exists L,rfl,⟨_,AZ.of hLL⟩
  refine DF C2 (xs:=vs) (fun D i Aw H' acc=>∃ v0:Option V,Aw=[v0,some (.ref c),some (.ref A0),some (.ref S)]/\Aq H9 H'/\H' D=some (.lst acc)/\acc=[]/\acc.length<=i)
   (by lia) (fun D hD=>⟨_,rfl,Ad hD,Ab,rfl,ZJ _⟩) (fun D i Aw H' acc hD ⟨v0,_,sa,AK,_,al⟩=>⟨AZ.of (sa _ _ hLL),AK,al⟩) ?_ ?_
  ·rintro D i Aw H' acc x' B N hD LF ⟨v0,rfl,sa,AK,ea,al⟩ hB hN;obtain ⟨tf,f,rfl,ef,htf⟩:=tU.get LF;have fm:=ZE ef;obtain ⟨f1,f2,f3⟩:=(opn.2.2 f).mp fm;have fo:=opn.opn cw.ok1.nd fm;have fl:f.length<=10:=by
    have:=f2.length_le;rw [ZA] at this;lia
   have sb':=s19.trans sa;refine ⟨_,rfl,_,rfl,_,rfl,c,m,A0,tf,n,xs,ws,Ap,Ar,x,d,f,rfl,cw.same sb',pa.cp.few,kn.same sb',sa _ _ htf,fo,fl,fun Oa tot2 MU tt2=>?_⟩;have low:=Vs pa.st cw.ok1.nd pa.cp.ok pa.lev.1 pa.lev.2.2 cw.lim f2 f3 tt2;rw [<-elo] at low;exists _,rfl,S,_,_,_,rfl,rfl,Ay.of (MU _ _ (sa _ _ (s9 _ _ hS8))),rfl,_,_,rfl,rfl,_,rfl;refine CL (fun z=>absurd (of_decide_eq_true z) (by lia)) (fun _=>?_);exact hN _ _ ⟨_,rfl,sa.trans MU,MU _ _ AK,ea,by lia⟩
  ·rintro D Aw H' acc hD ⟨v0,rfl,sa,AK,ea,al⟩;subst ea;refine ⟨(by show 0<=sizeLine; lia),fun E' hE=>⟨D,E',[],rfl,rfl,AZ.of (Ad hE _ _ AK),AZ.of Ab,?_⟩⟩;exact k _ ((s19.trans sa).trans (Ad hE))
end
def Oq (K:ZD):Sp:=fun vs H Q _=>∃ (a:Addr) (ns:List Int),vs=[.ref a]/\TH K H a (ns.map V.int)/\ns.length<=63/\∀ H',Q (.bl true) H'
section
variable {P:Program} {w:World} {K:ZD} {mg:Str->Option Value} {base:Heap}
theorem Vn (h_range:mg "range"=none) {fE:Addr} {fdE:FuncData} (XE:Fn K mg "_law_pen" Fd ["_law_script","_law_k"] fE fdE) (GE:A8 P w K mg base Bt 1 fE fdE ["_law_script","_law_k"] (QX K)) {fT:Addr} {fdT:FuncData} (XT:Fn K mg "_law_take" Bv ["_law_pen_here","_law_many"] fT fdT) (GT:A8 P w K mg base Bt 1 fT fdT ["_law_pen_here","_law_many"] CO) {fC:Addr} {fdC:FuncData} (XC:Fn K mg "_law_case" El ["_law_pen_here","_law_kind"] fC fdC) (GC:A8 P w K mg base Bt 3 fC fdC ["_law_pen_here","_law_kind"] Ox) {fFL:Addr} {fdFL:FuncData} (XFL:Fn K mg "_law_fars" Ej ["_law_case_here"] fFL fdFL) (GFL:A8 P w K mg base Bt 1 fFL fdFL ["_law_case_here"] Ov) {fPA:Addr} {fdPA:FuncData} (XPA:Fn K mg "_law_paper" D9 ["_law_pen_here","_law_case_here","_law_away"] fPA fdPA) (GPA:A8 P w K mg base Bt 4 fPA fdPA ["_law_pen_here","_law_case_here","_law_away"] LW) {fRI:Addr} {fdRI:FuncData} (XRI:Fn K mg "_law_right" D8 ["_law_case_here","_law_away","_law_paper_here"] fRI fdRI) (GRI:A8 P w K mg base Bt 8 fRI fdRI ["_law_case_here","_law_away","_law_paper_here"] LV) {f:Addr} {fd:FuncData}
  (F:Dm K "law" "law" Ro f fd):A8 P w K mg base Bt 9 f fd ["_law_script"] (Oq K):=by
 refine F.ok Rn (fun vs H Q E h=>?_) (fun cdv A outer s H vs Q E hr h=>?_)
 ·obtain ⟨a,ns,rfl,_⟩:=h;rfl
 ·obtain ⟨a,ns,rfl,hS,hlen,k⟩:=h;have nd:=Rn.nd;have big:100000 < sizeLine:=by decide
  refine ⟨_,(Af (BC PassesOwn.never rfl (C0 (by rfl) h_range (Aa Ag Ac)) (Ai (i:=1) nd rfl (Or.inl rfl))
  (Af (Ao (i:=2) nd rfl (Or.inl rfl) (Am GE (hr.mono (by decide)) (by rfl) XE.mg XE.F.kp XE.b .nil Ax (Aa (pv 0) (Aa (pv 1) Ac))))
  (Af (Ao (i:=3) nd rfl (Or.inl rfl) (Am GC (hr.mono (by decide)) (by rfl) XC.mg XC.F.kp XC.b .nil Ax (Aa (pv 2) (Aa (Am GT (hr.mono (by decide)) (by rfl) XT.mg XT.F.kp XT.b .nil Ax (Aa (pv 2) (Aa Ag Ac))) Ac))))
  (Af (Ao (i:=4) nd rfl (Or.inl rfl) (Am GFL (hr.mono (by decide)) (by rfl) XFL.mg XFL.F.kp XFL.b .nil Ax (Aa (pv 3) Ac)))
  (Al (BC PassesOwn.never rfl (C0 (by rfl) h_range (Aa Ag Ac)) (Ai (i:=5) nd rfl (Or.inl rfl))
  (Al (Cr (DJ (EI (Am GRI (hr.mono (by decide)) (by rfl) XRI.mg XRI.F.kp XRI.b .nil Ax (Aa (pv 3) (Aa (pv 4) (Aa (Am GPA (hr.mono (by decide)) (by rfl) XPA.mg XPA.F.kp XPA.b .nil Ax (Aa (pv 2) (Aa (pv 3) (Aa (pv 4) Ac)))) Ac))))))
  (Al (A4 E4))
  Bo))))))))
  (Al (A4 E4))),?_⟩
  refine ⟨3,rfl,by decide,by decide,Dk (n:=3) (fun _ σ H'=>(∃ v1 v2 v3 v4 v5,σ=[some (.ref a),v1,v2,v3,v4,v5])/\TH K H' a (ns.map V.int)) ⟨⟨_,_,_,_,_,rfl⟩,hS⟩ ?_ (fun σ H' _=>k H')⟩;rintro j σ H0 hj ⟨⟨v1,v2,v3,v4,v5,rfl⟩,S0⟩;refine ⟨_,rfl,_,rfl,a,ns,0 + (j:Int),rfl,S0,by lia,fun p y0 y1 y2 hp=>?_⟩;have P1:A6 (upd H0 p (.lst (A1 y0 y1 y2))) p:=A6.set _ _ _;have q1:Aq H0 (upd H0 p (.lst (A1 y0 y1 y2))):=Ad hp;generalize upd H0 p (.lst (A1 y0 y1 y2))=H1 at P1 q1 ⊢;refine ⟨_,rfl,_,rfl,p,3,rfl,P1,by decide,CM (by decide),fun d1 a1 b1 c1 Z2 Z1=>?_⟩;refine ⟨p,d1,rfl,A6.set _ _ _,fun H2 c m n xs ws Ap Ar x d P2 k2 cw few=>?_⟩;have k02:A9 p H1 H2:=A9.upd.trans k2;refine ⟨_,rfl,c,m,n,xs,ws,Ap,Ar,x,d,rfl,cw,fun H3 A0 s3 hA kn=>?_⟩;refine ⟨3,rfl,by decide,by decide,Dk (n:=3) (fun _ σ H'=>(∃ v1 v5,σ=[some (.ref a),v1,some (.ref p),some (.ref c),some (.ref A0),v5])/\A6 H' p/\A9 p H1 H'/\Cc H' c m n xs ws Ap Ar x d/\BU H' A0 xs ws) ⟨⟨_,_,rfl⟩,P2.same s3,k02.trans (A9.of_same s3),cw.same s3,kn⟩ ?_ ?_⟩
  ·rintro i0 σ H4 hi0 ⟨⟨v1,v5,rfl⟩,P4,k4,cw4,VV⟩;refine ⟨_,rfl,_,rfl,_,rfl,_,rfl,_,rfl,p,c,m,A0,n,xs,ws,Ap,Ar,x,d,rfl,P4,cw4,few,VV,fun H5 pp o t T ss zs qs lv P5 k5 pa=>?_⟩;have XJ:=VV.keep P4 k5;refine ⟨c,m,pp,o,t,T,A0,n,xs,ws,Ap,Ar,x,d,ss,zs,qs,lv,rfl,pa,XJ,fun H6 s6=>⟨_,rfl,?_⟩⟩;refine BZ ?_;exact ⟨⟨_,_,rfl⟩,P5.same s6,(k4.trans k5).trans (A9.of_same s6),pa.cp.cw.same s6,XJ.same s6⟩
  ·rintro σ H4 ⟨⟨v1,v5,rfl⟩,P4,k4,cw4,VV⟩;exact ⟨⟨_,_,_,_,_,rfl⟩,S0.same fun b o z=>k4 b o (Ah z hp) (q1 _ _ z)⟩
end
end K23
namespace L2
open PySem PySem.Spec PyProof.Rows
def At (K:ZD) (n:Str) (st:Stmt) (f:Addr) (fd:FuncData):Prop:=aD K mainGlobals n=some (some (.ref f))/\Dm K n n st f fd
section
variable {K:ZD} {h:Heap} {mg:Str->Option Value} {n p q r t u:Str} {st:Stmt} {f:Addr} {fd:FuncData}
theorem at_mk {oc:Value} {od an:Option Addr} {osl:Array (Option Value)} {kV doc pm cdv ct:Value} (a:aD K mainGlobals n=some (some (.ref f))) (l:K.lookup f=some ⟨oc,od,.func (bp n n (Eu st) (Dg st) (An st) .none kV doc pm an cdv ct),osl⟩)
  (c:cG K cdv n=true) (k:cE K (.ref f)=true):At K n st f (bp n n (Eu st) (Dg st) (An st) .none kV doc pm an cdv ct):=⟨a,V4 l c k⟩
abbrev BA (n:Str) (st:Stmt) (us:List Value) (ps:List (Str × Value)):Prop:=∀ (kV doc pm:Value) (an:Option Addr) (cdv ct:Value),bindArgs (bp n n (Eu st) (Dg st) (An st) .none kV doc pm an cdv ct) ⟨us,[]⟩=pure ps
theorem Uy (X:K.In h) (G:h.Ns mainGlobals mg) (A:At K n st f fd) (hb:∀ x,BA n st [x] [(p,x)]):Fn K mg n st [p] f fd:=⟨A.2,bg X G A.1,A.2.binds fun _ _ _ _ _ _ us hl=>by obtain ⟨x,rfl⟩:=len1 hl; exact hb ..⟩
theorem MY (X:K.In h) (G:h.Ns mainGlobals mg) (A:At K n st f fd) (hb:∀ x y,BA n st [x,y] [(p,x),(q,y)]):Fn K mg n st [p,q] f fd:=⟨A.2,bg X G A.1,A.2.binds fun _ _ _ _ _ _ us hl=>by obtain ⟨x,y,rfl⟩:=len2 hl; exact hb ..⟩
theorem Sq (X:K.In h) (G:h.Ns mainGlobals mg) (A:At K n st f fd) (hb:∀ x y z,BA n st [x,y,z] [(p,x),(q,y),(r,z)]):Fn K mg n st [p,q,r] f fd:=⟨A.2,bg X G A.1,A.2.binds fun _ _ _ _ _ _ us hl=>by obtain ⟨x,y,z,rfl⟩:=len3 hl; exact hb ..⟩
theorem fa4 (X:K.In h) (G:h.Ns mainGlobals mg) (A:At K n st f fd) (hb:∀ x y z w,BA n st [x,y,z,w] [(p,x),(q,y),(r,z),(t,w)]):Fn K mg n st [p,q,r,t] f fd:=⟨A.2,bg X G A.1,A.2.binds fun _ _ _ _ _ _ us hl=>by obtain ⟨x,y,z,w,rfl⟩:=len4 hl; exact hb ..⟩
theorem fa5 (X:K.In h) (G:h.Ns mainGlobals mg) (A:At K n st f fd) (hb:∀ x y z w v,BA n st [x,y,z,w,v] [(p,x),(q,y),(r,z),(t,w),(u,v)]):Fn K mg n st [p,q,r,t,u] f fd:=⟨A.2,bg X G A.1,A.2.binds fun _ _ _ _ _ _ us hl=>by obtain ⟨x,y,z,w,v,rfl⟩:=len5 hl; exact hb ..⟩
end
end L2
namespace K23
open PySem L2
theorem all_mk {l:df} {w:World} {K:ZD} {h:Heap} {mg:Str->Option Value} {fa f1 f2 f3 f4 f5 f6 f7 f8 f9 f10 f11 f12 f13 f14 f15 f16 f17 f18 f19 f20 f21 f22 f23 f24 f25 f26 f27 f28 f29 f30 f31 f32 f33 f34 f35 f36 f37 f38 f39:Addr} {d1 d2 d3 d4 d5 d6 d7 d8 d9 Z2 Z1 d12 d13 d14 d15 d16 d17 d18 d19 d20 d21 d22 d23 d24 d25 d26 d27 d28 d29 d30 d31 d32 d33 d34 d35 d36 d37 d38 d39:FuncData} (X:K.In h) (G:h.Ns mainGlobals mg) (hfa:mg "law"=some (.ref fa))
  (a1:At K "is_name" Di f1 d1) (a2:At K "are_rising" CV f2 d2) (a3:At K "is_whole" Em f3 d3) (a4:At K "is_whole_from" BK f4 d4) (a5:At K "neighbours" CQ f5 d5) (a6:At K "fars" Ld f6 d6) (a7:At K "site_fars" CC f7 d7) (a8:At K "nearest" Fb f8 d8) (a9:At K "houses_cost" C9 f9 d9) (a10:At K "is_opening" CU f10 Z2) (a11:At K "most_houses" C8 f11 Z1) (a12:At K "are_folk_rows" BL f12 d12) (a13:At K "are_rows" En f13 d13) (a14:At K "is_row_of" DB f14 d14) (a15:At K "gets_from" DC f15 d15) (a16:At K "stand" Ic f16 d16) (a17:At K "stand_by" Eh f17 d17) (a18:At K "low" O1 f18 d18) (a19:At K "are_prices" CW f19 d19) (a20:At K "is_levy" Ff f20 d20) (a21:At K "lets_by" Fc f21 d21) (a22:At K "are_goings" CY f22 d22) (a23:At K "span" Lc f23 d23) (a24:At K "_law_pen" Fd f24 d24) (a25:At K "_law_take" Bv f25 d25) (a26:At K "_law_names" DA f26 d26) (a27:At K "_law_ways" Ce f27 d27) (a28:At K "_law_some" Dq f28 d28) (a29:At K "_law_case" El f29 d29) (a30:At K "_law_fars" Ej f30 d30) (a31:At K "_law_cost" Ek f31 d31) (a32:At K "_law_openings" Cq f32 d32) (a33:At K "_law_gets" Ei f33 d33) (a34:At K "_law_low" Fe f34 d34) (a35:At K "_law_raised" CS f35 d35) (a36:At K "_law_prices" CT f36 d36) (a37:At K "_law_paper" D9 f37 d37) (a38:At K "_law_right" D8 f38 d38) (a39:At K "law" Ro f39 d39)
  (z1:aD K mainGlobals "range"=some none) (z2:aD K mainGlobals "abs"=some none) (z3:aD K mainGlobals "len"=some none) (z4:aD K mainGlobals "int"=some none) (z5:aD K mainGlobals "sorted"=some none) (z6:aD K mainGlobals "tuple"=some none) (z7:aD K mainGlobals "list"=some none) (z8:aD K mainGlobals "min"=some none) (z9:aD K mainGlobals "dict"=some none) (z10:aD K mainGlobals "max"=some none) (z11:aD K mainGlobals "bool"=some none) (z12:aD K mainGlobals "isinstance"=some none) (z13:aD K mainGlobals "sum"=some none) (z14:aD K mainGlobals "zip"=some none) (z15:aD K mainGlobals "all"=some none) (z16:aD K mainGlobals "set"=some none) (z17:aD K mainGlobals "str"=some none) {tc1:Tok} (w1:aD K mainGlobals "MOST_LETTERS"=some (some (.int 6 tc1))) :
  ∃ fd:FuncData,(∀ (s:Shared) (v:Value),BindsTo s fd ⟨[v],[]⟩ [("_law_script",v)])/\∀ base:Heap,K.In base->base.Ns mainGlobals mg->A8 l.prog w K mg base Bt 9 fa fd ["_law_script"] (Oq K):=by
 cases hfa.symm.trans (bg X G a39.1)
 have y1:=ak X G z1;have y2:=ak X G z2;have y3:=ak X G z3;have y4:=ak X G z4;have y5:=ak X G z5;have y6:=ak X G z6;have y7:=ak X G z7;have y8:=ak X G z8;have y9:=ak X G z9;have Yt:=ak X G z10;have Ys:=ak X G z11;have OT:=ak X G z12;have UA:=ak X G z13;have Yr:=ak X G z14;have QF:=ak X G z15;have y16:=ak X G z16;have Xv:=ak X G z17;have n1:=Uy X G a1 (p:="thing") fun _ _ _ _ _ _ _=>rfl
 have n2:=Uy X G a2 (p:="things") fun _ _ _ _ _ _ _=>rfl
 have n3:=Uy X G a3 (p:="thing") fun _ _ _ _ _ _ _=>rfl
 have n4:=MY X G a4 (p:="thing") (q:="least") fun _ _ _ _ _ _ _ _=>rfl
 have n5:=Uy X G a5 (p:="web") fun _ _ _ _ _ _ _=>rfl
 have n6:=MY X G a6 (p:="web") (q:="place") fun _ _ _ _ _ _ _ _=>rfl
 have n7:=Uy X G a7 (p:="case") fun _ _ _ _ _ _ _=>rfl
 have n8:=MY X G a8 (p:="web") (q:="starts") fun _ _ _ _ _ _ _ _=>rfl
 have n9:=MY X G a9 (p:="case") (q:="opening") fun _ _ _ _ _ _ _ _=>rfl
 have n10:=MY X G a10 (p:="case") (q:="thing") fun _ _ _ _ _ _ _ _=>rfl
 have n11:=Uy X G a11 (p:="case") fun _ _ _ _ _ _ _=>rfl
 have n12:=MY X G a12 (p:="case") (q:="thing") fun _ _ _ _ _ _ _ _=>rfl
 have n13:=MY X G a13 (p:="thing") (q:="places") fun _ _ _ _ _ _ _ _=>rfl
 have n14:=MY X G a14 (p:="row") (q:="place") fun _ _ _ _ _ _ _ _=>rfl
 have n15:=Sq X G a15 (p:="case") (q:="prices") (r:="away") fun _ _ _ _ _ _ _ _ _=>rfl
 have n16:=Sq X G a16 (p:="case") (q:="prices") (r:="levy") fun _ _ _ _ _ _ _ _ _=>rfl
 have n17:=fa4 X G a17 (p:="case") (q:="aways") (r:="prices") (t:="levy") fun _ _ _ _ _ _ _ _ _ _=>rfl
 have n18:=Sq X G a18 (p:="case") (q:="prices") (r:="levy") fun _ _ _ _ _ _ _ _ _=>rfl
 have n19:=MY X G a19 (p:="case") (q:="thing") fun _ _ _ _ _ _ _ _=>rfl
 have n20:=MY X G a20 (p:="case") (q:="thing") fun _ _ _ _ _ _ _ _=>rfl
 have n21:=MY X G a21 (p:="case") (q:="paper") fun _ _ _ _ _ _ _ _=>rfl
 have n22:=Sq X G a22 (p:="case") (q:="opening") (r:="thing") fun _ _ _ _ _ _ _ _ _=>rfl
 have n23:=MY X G a23 (p:="case") (q:="paper") fun _ _ _ _ _ _ _ _=>rfl
 have n24:=MY X G a24 (p:="_law_script") (q:="_law_k") fun _ _ _ _ _ _ _ _=>rfl
 have Ui:=MY X G a25 (p:="_law_pen_here") (q:="_law_many") fun _ _ _ _ _ _ _ _=>rfl
 have YH:=MY X G a26 (p:="_law_pen_here") (q:="_law_many") fun _ _ _ _ _ _ _ _=>rfl
 have n27:=Sq X G a27 (p:="_law_pen_here") (q:="_law_names_here") (r:="_law_kind") fun _ _ _ _ _ _ _ _ _=>rfl
 have n28:=Sq X G a28 (p:="_law_pen_here") (q:="_law_names_here") (r:="_law_most") fun _ _ _ _ _ _ _ _ _=>rfl
 have n29:=MY X G a29 (p:="_law_pen_here") (q:="_law_kind") fun _ _ _ _ _ _ _ _=>rfl
 have n30:=Uy X G a30 (p:="_law_case_here") fun _ _ _ _ _ _ _=>rfl
 have n31:=Sq X G a31 (p:="_law_case_here") (q:="_law_away") (r:="_law_opening") fun _ _ _ _ _ _ _ _ _=>rfl
 have n32:=Uy X G a32 (p:="_law_case_here") fun _ _ _ _ _ _ _=>rfl
 have n33:=fa4 X G a33 (p:="_law_case_here") (q:="_law_away") (r:="_law_prices_here") (t:="_law_site") fun _ _ _ _ _ _ _ _ _ _=>rfl
 have n34:=Sq X G a34 (p:="_law_case_here") (q:="_law_prices_here") (r:="_law_levy") fun _ _ _ _ _ _ _ _ _=>rfl
 have n35:=fa5 X G a35 (p:="_law_case_here") (q:="_law_away") (r:="_law_prices_here") (t:="_law_levy") (u:="_law_at") fun _ _ _ _ _ _ _ _ _ _ _=>rfl
 have n36:=fa4 X G a36 (p:="_law_pen_here") (q:="_law_case_here") (r:="_law_away") (t:="_law_levy") fun _ _ _ _ _ _ _ _ _ _=>rfl
 have n37:=Sq X G a37 (p:="_law_pen_here") (q:="_law_case_here") (r:="_law_away") fun _ _ _ _ _ _ _ _ _=>rfl
 have n38:=Sq X G a38 (p:="_law_case_here") (q:="_law_away") (r:="_law_paper_here") fun _ _ _ _ _ _ _ _ _=>rfl
 obtain ⟨oc,od,kV,doc,pm,an,cdv,ct,osl,e,lk,hcd⟩:=a39.2.ex;exact ⟨d39,fun s v=>by subst e; exact .of_eq rfl,fun base _ _=>Vn y1 n24 (N1 y2 y3 a24.2) Ui (BE a25.2) n29 (Mv y4 y3 y5 y6 Ui (BE a25.2) YH (Ln y3 y1 Ui (BE a25.2) a26.2) n27 (Mr y4 y3 y1 y5 y6 Ui (BE a25.2) a27.2) n28 (Hv y3 y7 y8 y1 Ui (BE a25.2) a28.2) a29.2) n30 (Mt y4 a30.2) n37 (Lm y4 y3 y8 y5 y6 Ui (BE a25.2) n28 (Hv y3 y7 y8 y1 Ui (BE a25.2) a28.2) n36 (JL y3 y7 y1 y6 Ui (BE a25.2) n35 (JK y9 Yt y8 n33 (Ms y9 Yt a33.2) a35.2) a36.2) a37.2) n38 (Ll Ys OT UA y6 Yr n21 (Nz OT y3 y6 n10 (JM QF y9 OT y3 y6 n11 (IW y3 y8 a11.2) n2 (JN QF y7 y5 y16 n1 (Ii ⟨y3,OT,Xv,QF,⟨_,bg X G w1⟩⟩ a1.2) a2.2) a10.2) n22 (JP QF n12 (DY n13 (Hx QF OT y3 y6 Yr n14 (Ga OT y3 y6 n1 (Ii ⟨y3,OT,Xv,QF,⟨_,bg X G w1⟩⟩ a1.2) a14.2) a13.2) a12.2) n1 (Ii ⟨y3,OT,Xv,QF,⟨_,bg X G w1⟩⟩ a1.2) a22.2) n16 (R8 n19 (JO QF n12 (DY n13 (Hx QF OT y3 y6 Yr n14 (Ga OT y3 y6 n1 (Ii ⟨y3,OT,Xv,QF,⟨_,bg X G w1⟩⟩ a1.2) a14.2) a13.2) a12.2) n4 (DX n3 (Hw Ys y4 OT a3.2) a4.2) a19.2) n20 (N3 n4 (DX n3 (Hw Ys y4 OT a3.2) a4.2) a20.2) n7 (FZ n6 (O9 ⟨⟨n5.F,n5.mg,n5.b⟩,y8,n8.F,n8.mg,n8.b⟩ a6.2) a7.2) n17 (Mq QF n15 (Lo y9 Yt UA a15.2) a17.2) a16.2) a21.2) n23 (SV y9 UA n7 (FZ n6 (O9 ⟨⟨n5.F,n5.mg,n5.b⟩,y8,n8.F,n8.mg,n8.b⟩ a6.2) a7.2) n9 (IX y9 UA a9.2) n18 (Vm UA a18.2) a23.2) n34 (N2 UA a34.2) n31 (Mu y8 UA a31.2) n32 (HQ y4 y3 y5 a32.2) a38.2) a39.2⟩
theorem UQ {K:ZD} {H:Hp} {a:Addr} {xs:List V} (o:TK H) (h:AZ K H a xs):TH K H a xs:=by
 rcases h with (h | ⟨ob,h⟩) | h
 ·rcases o a with z | ⟨ob,ys,z⟩ <;> (rw [h] at z; cases z)
 ·exact .inl ⟨ob,h⟩
 ·exact .inr h
theorem walk {l:df} {q:Program} {loose:List Str} {XP:(Str->Option Value)->Heap->Prop} {YP:World->Heap->Prop} {d:DefRec} {K:Params->ZD} (hn:l.most=some 63) (hdf:d.params.defaults=[])
  (hY:∀ (w:World) (h:Heap),YP w h->(K w.params).In h)
  (F:∀ (w:World) (mg:Str->Option Value) (fa:Addr) (h:Heap),(K w.params).In h->h.Ns mainGlobals mg->mg d.name=some (.ref fa) ->
   ∃ fd:FuncData,(∀ (s:Shared) (u:Value),BindsTo s fd ⟨[u],[]⟩ [("_law_script",u)])/\∀ base:Heap,(K w.params).In base->base.Ns mainGlobals mg->A8 l.prog w (K w.params) mg base Bt 9 fa fd ["_law_script"] (Oq (K w.params))) :
  fh q loose XP YP l.row.toRowW d [] (fun f vs=>PySem.call f vs):=
 L2.walk_of (n:=63) (k:=9) (x:="_law_script") (CX:=fun _=>Bt) (sp:=fun w=>Oq (K w.params)) hn (by decide) hdf ⟨rfl,by decide,by decide,rfl⟩ hY F (fun _ _ a ns hl ho hS=>⟨a,ns,rfl,UQ ho hS,hl,fun _=>rfl⟩) fun _ _ _ _ _ z=>z
end K23
structure PySem.W.Fast:Prop where
  (tw11194621747625155930 tw2140022576876723199 tw14639293194388154878 tw12453727932089906603 tw8446469873902334456 tw15295224746102455490 tw14461971409477085328 tw11040438488768694333 tw1324553227455228995 tw11816068095129429524 tw11839673364415563101 tw18391785355781584249 tw14260314283259489231 tw4366230484829172192 tw2493131786256964566 tw33567698571208421 tw10582660270500291318 tw4967210637936753978 tw14403626035356158145 tw10423351612894020872 tw7106821405892805324 tw13510913474992909036 tw15255036963139640044 tw3303779302952727396 tw6850049714989622624 tw16712914567481354660 tw13828361657560925667 tw8164511788374377187 tw1842003069647009040 tw9604439638797559503 tw17328677437454556439 tw6790885105803106340 tw14539417515492428195 tw3652593645164660300 tw3237640672079312974 tw6207812340034190677 tw7731911321262275550 tw12476114203560434487 tw2264589528097701659 tw2497184455296361106 tw13372616305599358019 tw7378590358648716490 tw5403985129418846135 tw17448502737921281000 tw13582848672080937705 tw3292425224216399029 tw8000783096727566489 tw15204555892092315702 tw12703826922948926265 tw5168631488632383389 tw1999694034934431311 tw13129606013038645726 tw13659769202571493122 tw11517381356334681194 tw15273243581064884585 tw10028257906010707500 tw12811343566278023146 tw5883921304840678793 tw5546430599110108046 tw5249739973239786419 tw8938031971510695874 tw12523957580427194870 tw11846293041281495394 tw6655331655746647794 tw7626176416963788469 tw2777553710651450324 tw3631446223520237358 tw3198289644750508928 tw8495098529937520089 tw4955210706601229547 tw3617129167125386511 tw15972460112439060239 tw18388294400012505830 tw9380163662916623876 tw9026630932645154522 tw16162841316960680435 tw10475414002184773418 tw7368358675674732599 tw13782598130800594695 tw11669997882576224834 tw471391845791441597 tw689586443731511908 tw3145116536501222326 tw16102547852338759709 tw2325090004469280143 tw7279647512062456953 tw2972186490709190078 tw10791668040341661513 tw2986353218064988784 tw2240848622923821176 tw13576633496121931256 tw3120033904255350657 tw5809139575206244135 tw6371957310361602523 tw11858393205320276189 tw12926231919145644366:True)
open PySem PySem.W PyProof.Rows
set_option maxRecDepth 100000 in
set_option maxHeartbeats 0 in
theorem PySem.Challenge.cw_openhouses_k23_whole_the_best_lies_betwe_holds : PySem.Challenge.rw_openhouses_k23_whole_the_best_lies_betwe.Holds := by
 w_on; o_law; k_head; (case hw=>w_witness2)
 k_fill
 refine K23.walk (l:=PySem.Challenge.rw_openhouses_k23_whole_the_best_lies_betwe) rfl rfl (fun w h Y=>PySem.W.kIn_of Y) ?F
 case F=>
  intro w mg fa h KX G hmg;refine' K23.all_mk KX G hmg (L2.at_mk ?a1 ?l1 ?c1 ?k1) (L2.at_mk ?a2 ?l2 ?c2 ?k2) (L2.at_mk ?a3 ?l3 ?c3 ?k3) (L2.at_mk ?a4 ?l4 ?c4 ?k4) (L2.at_mk ?a5 ?l5 ?c5 ?k5) (L2.at_mk ?a6 ?l6 ?c6 ?k6) (L2.at_mk ?a7 ?l7 ?c7 ?k7) (L2.at_mk ?a8 ?l8 ?c8 ?k8) (L2.at_mk ?a9 ?l9 ?c9 ?k9) (L2.at_mk ?a10 ?l10 ?c10 ?k10) (L2.at_mk ?a11 ?l11 ?c11 ?k11) (L2.at_mk ?a12 ?l12 ?c12 ?k12) (L2.at_mk ?a13 ?l13 ?c13 ?k13) (L2.at_mk ?a14 ?l14 ?c14 ?k14) (L2.at_mk ?a15 ?l15 ?c15 ?k15) (L2.at_mk ?a16 ?l16 ?c16 ?k16) (L2.at_mk ?a17 ?l17 ?c17 ?k17) (L2.at_mk ?a18 ?l18 ?c18 ?k18) (L2.at_mk ?a19 ?l19 ?c19 ?k19) (L2.at_mk ?a20 ?l20 ?c20 ?k20) (L2.at_mk ?a21 ?l21 ?c21 ?k21) (L2.at_mk ?a22 ?l22 ?c22 ?k22) (L2.at_mk ?a23 ?l23 ?c23 ?k23) (L2.at_mk ?a24 ?l24 ?c24 ?k24) (L2.at_mk ?a25 ?l25 ?c25 ?k25) (L2.at_mk ?a26 ?l26 ?c26 ?k26) (L2.at_mk ?a27 ?l27 ?c27 ?k27) (L2.at_mk ?a28 ?l28 ?c28 ?k28) (L2.at_mk ?a29 ?l29 ?c29 ?k29) (L2.at_mk ?a30 ?l30 ?c30 ?k30) (L2.at_mk ?a31 ?l31 ?c31 ?k31) (L2.at_mk ?a32 ?l32 ?c32 ?k32) (L2.at_mk ?a33 ?l33 ?c33 ?k33) (L2.at_mk ?a34 ?l34 ?c34 ?k34) (L2.at_mk ?a35 ?l35 ?c35 ?k35) (L2.at_mk ?a36 ?l36 ?c36 ?k36) (L2.at_mk ?a37 ?l37 ?c37 ?k37) (L2.at_mk ?a38 ?l38 ?c38 ?k38) (L2.at_mk ?a39 ?l39 ?c39 ?k39) ?z1 ?z2 ?z3 ?z4 ?z5 ?z6 ?z7 ?z8 ?z9 ?z10 ?z11 ?z12 ?z13 ?z14 ?z15 ?z16 ?z17 ?w1;any_goals k_is
