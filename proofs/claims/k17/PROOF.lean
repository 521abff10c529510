import PyProof.Rows.All
import Wide.All
import OpenK.AllK
import Wide.FinOn
import Lean
import PyProof.EqAt
import PyProof.EqKinds
import PyProof.TupleCall
import PyProof.P3Eq
import PyProof.NeData
import PyProof.P3In
import PyProof.StrLawsChain
import KE.KIntText
import KE.IntTextLaws
import PyProof.Rows.StrJoinMade
import PyProof.Rows.FStr
import PyProof.ListMulRoad
import PySem.Challenge.RW_openhouses_k17_things_that_are_no_prices
set_option Elab.async false
set_option linter.all false
set_option maxRecDepth 100000
set_option maxHeartbeats 4000000
namespace L2
open PySem PySem.W PyProof.Rows
section
variable {lt:Keyed->Keyed->Bool}
end
def itA (xs:Array Keyed) (i:Nat):Keyed:=xs.getD i (Value.none,Value.none)
theorem itA_get {xs:Array Keyed} {i:Nat} (h:i < xs.size):xs[i]? = some (itA xs i):=by
 unfold itA
 simp [Array.getD,h]
theorem itA_eq {xs ys:Array Keyed} {i j:Nat} (h:xs[i]? = ys[j]?):itA xs i=itA ys j:=by
 unfold itA
 rw [Array.getD_eq_getD_getElem?,Array.getD_eq_getD_getElem?,h]
theorem itA_mem {xs:Array Keyed} {i:Nat} (h:i < xs.size):itA xs i ∈ xs:=Array.mem_of_getElem? (itA_get h)
def Ans (prog:Program) (w:World) (A:Around) (s:Shared) (κ:SortKind) (lt:Keyed->Keyed->Bool) (a0:Array Keyed):Prop:=
 ∀ x y,x ∈ a0->y ∈ a0->∀ (Q:Bool->Shared->Prop) (E:Value->Shared->Prop),Q (lt x y) s->wpAny (model prog w) A (keyLt' κ x.1 y.1) Q E s
section
variable {prog:Program} {w:World} {A:Around} {E:Value->Shared->Prop} {s:Shared} {κ:SortKind} {lt:Keyed->Keyed->Bool} {a0:Array Keyed}
theorem wpS_elemG {xs:Array Keyed} {i:Nat} {Q:Keyed->SortSt->Prop} {st:SortSt} (hi:i < xs.size) (h:Q (itA xs i) st):wpS (model prog w) A E s (elem' xs i) Q st:=by
 rw [elem'_eq,itA_get hi]
 exact wpS_pure h
theorem wpS_ltG {x y:Keyed} {Q:Option Bool->SortSt->Prop} {st:SortSt} (an:Ans prog w A s κ lt a0) (hk:kindOf st=κ) (hx:x ∈ a0) (hy:y ∈ a0) (h:Q (some (lt x y)) st) :
  wpS (model prog w) A E s (lt' x y) Q st:=by
 rw [lt'_eq]
 refine wpS_bind (wpS_get ?_)
 rw [hk]
 refine wpS_bind (wpS_lift (wpAny_attempt (an x y hx hy _ _ ⟨rfl,?_⟩)))
 exact wpS_pure h
theorem wpS_ltAtG {i j:Nat} {Q:Option Bool->SortSt->Prop} {st:SortSt} (an:Ans prog w A s κ lt a0) (hk:kindOf st=κ) (hp:(arrOf st).Perm a0) (hi:i < a0.size) (hj:j < a0.size)
  (h:Q (some (lt (itA (arrOf st) i) (itA (arrOf st) j))) st):wpS (model prog w) A E s (ltAt' i j) Q st:=by
 rw [ltAt'_eq]
 refine wpS_bind (wpS_get ?_)
 have e:=hp.size_eq
 refine wpS_bind (wpS_elemG (by (first|lia|omega)) (wpS_bind (wpS_elemG (by (first|lia|omega)) ?_)))
 exact wpS_ltG an hk ((Array.Perm.mem_iff hp).mp (itA_mem (by (first|lia|omega)))) ((Array.Perm.mem_iff hp).mp (itA_mem (by (first|lia|omega)))) h
def gallopG:Bool->Keyed->Array Keyed->Nat->Nat->Nat->StateT SortSt Sem (Option Nat):=sortPriv% PySem.Builtin.gallop
def byd (lt:Keyed->Keyed->Bool) (left:Bool) (key x:Keyed):Bool:=if left=true then lt x key else !(lt key x)
def askG (left:Bool) (key:Keyed) (arr:Array Keyed) (base i:Nat):StateT SortSt Sem (Option Bool):=do
 let x <- elem' arr (base + i)
 if left=true then lt' x key else do
  let r <- lt' key x
  pure (Option.map (fun b=>!b) r)
theorem wpS_askG {left:Bool} {key:Keyed} {arr:Array Keyed} {base i:Nat} {Q:Option Bool->SortSt->Prop} {st:SortSt} (an:Ans prog w A s κ lt a0) (hk:kindOf st=κ)
  (hkey:key ∈ a0) (hx:itA arr (base + i) ∈ a0) (hi:base + i < arr.size) (h:Q (some (byd lt left key (itA arr (base + i)))) st):wpS (model prog w) A E s (askG left key arr base i) Q st:=by
 unfold askG
 refine wpS_bind (wpS_elemG hi ?_)
 unfold byd at h
 cases left with
 | true=>
  simp only [if_true] at h ⊢
  exact wpS_ltG an hk hx hkey h
 | false=>
  simp only [Bool.false_eq_true,if_false] at h ⊢
  exact wpS_bind (wpS_ltG an hk hkey hx (wpS_pure h))
end
section lists
variable {lt:Keyed->Keyed->Bool}
theorem itA_toList {xs:Array Keyed} {i:Nat} (h:i < xs.toList.length):xs.toList[i]=itA xs i:=by
 have h':i < xs.size:=by simpa using h
 unfold itA
 simp [Array.getD,h']
theorem drop_itA {xs:Array Keyed} {i:Nat} (h:i < xs.size):xs.toList.drop i=itA xs i :: xs.toList.drop (i + 1):=by
 rw [List.drop_eq_getElem_cons (by simpa using h),itA_toList]
theorem take_itA {xs:Array Keyed} {i:Nat} (h:i < xs.size):xs.toList.take (i + 1)=xs.toList.take i ++ [itA xs i]:=by
 rw [List.take_succ,List.getElem?_eq_getElem (by simpa using h),itA_toList]
 rfl
theorem drop_part (xs:Array Keyed) (i k:Nat):xs.toList.drop i=(xs.extract i (i + k)).toList ++ xs.toList.drop (i + k):=by
 rw [Array.toList_extract,List.extract_eq_take_drop,Nat.add_sub_cancel_left,<-List.drop_drop]
 exact (List.take_append_drop _ _).symm
theorem take_part {xs:Array Keyed} {i j:Nat} (h:i<=j):xs.toList.take j=xs.toList.take i ++ (xs.extract i j).toList:=by
 rw [Array.toList_extract,List.extract_eq_take_drop]
 have:j=i + (j - i):=by (first|lia|omega)
 rw [this,List.take_add,<-this]
theorem extr_drop (xs:Array Keyed) (i:Nat):(xs.extract i).toList=xs.toList.drop i:=by
 rw [Array.toList_extract,List.extract_eq_take_drop]
 exact List.take_of_length_le (by simp)
theorem extr_take (xs:Array Keyed) (i:Nat):(xs.extract 0 i).toList=xs.toList.take i:=by
 rw [Array.toList_extract,List.extract_eq_take_drop]
 rfl
end lists
section
variable {prog:Program} {w:World} {A:Around} {E:Value->Shared->Prop} {s:Shared} {κ:SortKind} {lt:Keyed->Keyed->Bool} {a0:Array Keyed}
def mergeLoG:Array Keyed->Array Keyed->StateT SortSt Sem (Array Keyed):=sortPriv% PySem.Builtin.mergeLo
abbrev setGal (st:SortSt) (g:Nat):SortSt:=SortSt.mk' (kindOf st) (arrOf st) (pendingOf st) g (failedOf st)
theorem wpS_iteI {α:Type} {c:Prop} [Decidable c] {t e:StateT SortSt Sem α} {Q:α->SortSt->Prop} {st:SortSt} (hp:c->wpS (model prog w) A E s t Q st) (hn:¬ c->wpS (model prog w) A E s e Q st):wpS (model prog w) A E s (if c then t else e) Q st:=by
 by_cases h:c
 ·rw [if_pos h]; exact hp h
 ·rw [if_neg h]; exact hn h
theorem wpS_beqI {α:Type} {m n:Nat} {t e:StateT SortSt Sem α} {Q:α->SortSt->Prop} {st:SortSt} (hp:m=n->wpS (model prog w) A E s t Q st) (hn:¬ m=n->wpS (model prog w) A E s e Q st):wpS (model prog w) A E s (if (m == n)=true then t else e) Q st:=
 wpS_iteI (fun h=>hp (by simpa using h)) (fun h=>hn (by simpa using h))
theorem dup1 {G:Prop} {α:Type} {T:α->Prop} (main:(∀ x,T x)->G) (leaf:∀ x,T x):G:=main leaf
theorem dup2 {G:Prop} {α β:Type} {T:α->β->Prop} (C:α->β->Prop) (main:(∀ x y,C x y->T x y)->G) (leaf:∀ x y,C x y->T x y):G:=main leaf
end
section
variable {prog:Program} {w:World} {A:Around} {E:Value->Shared->Prop} {s:Shared} {κ:SortKind} {lt:Keyed->Keyed->Bool} {a0:Array Keyed}
def mergeHiG:Array Keyed->Array Keyed->StateT SortSt Sem (Array Keyed):=sortPriv% PySem.Builtin.mergeHi
end
section segs
variable {lt:Keyed->Keyed->Bool}
theorem itA_mirror {xs:Array Keyed} {i j:Nat} (hj:j<=xs.size) (k:Nat):itA (mirror xs i j ((j - i) / 2)) k=if i<=k/\k < j then itA xs (i + j - 1 - k) else itA xs k:=by
 have e:=getElem?_mirror_all (i:=i) hj k
 split at e
 ·rw [if_pos ‹_›]; exact itA_eq e
 ·rw [if_neg ‹_›]; exact itA_eq e
theorem itA_bubble {xs:Array Keyed} {src d:Nat} (hs:src < xs.size) (hd:d<=src) (k:Nat) :
  itA (bubble xs src d) k=if k=src - d then itA xs src else if src - d < k/\k<=src then itA xs (k - 1) else itA xs k:=by
 have e:=getElem?_bubble hs d hd k
 by_cases h1:k=src - d
 ·rw [if_pos h1] at e ⊢; exact itA_eq e
 ·by_cases h2:src - d < k/\k<=src
  ·rw [if_neg h1,if_pos h2] at e ⊢; exact itA_eq e
  ·rw [if_neg h1,if_neg h2] at e ⊢; exact itA_eq e
def Kp (xs ys:Array Keyed) (lo:Nat):Prop:=ys.Perm xs/\∀ k,k < lo->itA ys k=itA xs k
theorem Kp.refl (xs:Array Keyed) (lo:Nat):Kp xs xs lo:=⟨Array.Perm.refl _,fun _ _=>rfl⟩
theorem Kp.size {xs ys:Array Keyed} {lo:Nat} (h:Kp xs ys lo):ys.size=xs.size:=h.1.size_eq
theorem Kp.mirror {xs ys:Array Keyed} {lo i j:Nat} (h:Kp xs ys lo) (hj:j<=xs.size) (hi:lo<=i):Kp xs (PyProof.Rows.mirror ys i j ((j - i) / 2)) lo:=by
 refine ⟨(mirror_perm _ _ _ _).trans h.1,fun k hk=>?_⟩
 rw [itA_mirror (by rw [h.size]; exact hj),if_neg (by (first|lia|omega))]
 exact h.2 k hk
theorem Kp.bubble {xs ys:Array Keyed} {lo src d:Nat} (h:Kp xs ys lo) (hs:src < xs.size) (hd:lo + d<=src):Kp xs (PyProof.Rows.bubble ys src d) lo:=by
 refine ⟨(bubble_perm _ _ _).trans h.1,fun k hk=>?_⟩
 rw [itA_bubble (by rw [h.size]; exact hs) (by (first|lia|omega)),if_neg (by (first|lia|omega)),if_neg (by (first|lia|omega))]
 exact h.2 k hk
end segs
section
variable {prog:Program} {w:World} {A:Around} {E:Value->Shared->Prop} {s:Shared} {κ:SortKind} {lt:Keyed->Keyed->Bool} {a0:Array Keyed}
theorem wpS_revG {i j:Nat} {Q:Unit->SortSt->Prop} {st:SortSt} (h:Q () (setArr st (mirror (arrOf st) i j ((j - i) / 2)))):wpS (model prog w) A E s (reverseSlice' i j) Q st:=by
 rw [reverseSlice'_eq]
 exact wpS_modify h
theorem wpS_upG {body:Nat->Option (Option Nat) × Nat->StateT SortSt Sem (ForInStep (Option (Option Nat) × Nat))} {f:Nat->Bool} {a nrem:Nat} {st:SortSt} (ha:a<=nrem)
  (hb:∀ x n (R:ForInStep (Option (Option Nat) × Nat)->SortSt->Prop),a<=n->n < nrem->(f n=true->R (.done (none,n)) st)->(f n=false->R (.yield (none,n + 1)) st)->wpS (model prog w) A E s (body x (none,n)) R st) :
  wpS (model prog w) A E s (forIn [a:nrem] (none,a) body) (fun c st'=>st'=st/\∃ n,c=(none,n)/\a<=n/\n<=nrem/\(∀ i,a<=i->i < n->f i=false)/\(n=nrem\/f n=true)) st:=by
 refine wpS_forRange (I:=fun x c st'=>st'=st/\c=(none,x)/\(∀ i,a<=i->i < x->f i=false)) ?_ ?_ ⟨rfl,rfl,fun i h1 h2=>by (first|lia|omega)⟩
 ·rintro x c st' h1 h2 ⟨rfl,rfl,q⟩
  refine hb _ _ _ h1 h2 (fun e=>⟨rfl,x,rfl,h1,by (first|lia|omega),q,.inr e⟩) (fun e=>⟨rfl,rfl,fun i i1 i2=>?_⟩)
  by_cases z:i=x
  ·rw [z]; exact e
  ·exact q i i1 (by (first|lia|omega))
 ·rintro c st' ⟨rfl,rfl,q⟩
  rw [Nat.max_eq_right ha] at q ⊢
  exact ⟨rfl,nrem,rfl,ha,Nat.le_refl _,q,.inl rfl⟩
end
section
variable {lt:Keyed->Keyed->Bool}
theorem itA_list (xs:Array Keyed) (i:Nat):itA xs i=xs.toList.getD i (Value.none,Value.none):=by
 unfold itA
 rw [Array.getD_eq_getD_getElem?,List.getD_eq_getElem?_getD,Array.getElem?_toList]
theorem itA_extract {xs:Array Keyed} {a b i:Nat} (h1:a + i < b) (h2:b<=xs.size):itA (xs.extract a b) i=itA xs (a + i):=by
 apply itA_eq
 rw [Array.getElem?_extract,if_pos (by (first|lia|omega))]
theorem put_back (base:Nat):∀ (l:List Keyed) (off:Nat) (xs:Array Keyed),base + off + l.length<=xs.size ->
  ((l.zipIdx off).foldl (fun a x=>a.setIfInBounds (base + x.2) x.1) xs).toList=xs.toList.take (base + off) ++ l ++ xs.toList.drop (base + off + l.length)
 | [],off,xs,h=>by simp
 | y :: l,off,xs,h=>by
  rw [List.zipIdx_cons,List.foldl_cons]
  have hl:base + off < xs.toList.length:=by simp at h ⊢; (first|lia|omega)
  rw [put_back base l (off + 1) (xs.setIfInBounds (base + off) y) (by rw [Array.size_setIfInBounds]; simp at h ⊢; (first|lia|omega))]
  rw [Array.toList_setIfInBounds,<-Nat.add_assoc,List.take_succ,List.take_set_of_le (Nat.le_refl _),List.getElem?_set_self hl,List.drop_set_of_lt (by (first|lia|omega))]
  simp only [Option.toList,List.length_cons]
  rw [show base + off + 1 + l.length=base + off + (l.length + 1) by (first|lia|omega)]
  simp
theorem getD_app1 {a b:List Keyed} {k:Nat} {d:Keyed} (h:k < a.length):(a ++ b).getD k d=a.getD k d:=by
 rw [List.getD_eq_getElem?_getD,List.getD_eq_getElem?_getD,List.getElem?_append_left h]
theorem getD_app2 {a b:List Keyed} {k:Nat} {d:Keyed} (h:a.length<=k):(a ++ b).getD k d=b.getD (k - a.length) d:=by
 rw [List.getD_eq_getElem?_getD,List.getD_eq_getElem?_getD,List.getElem?_append_right h]
def whr (p:Nat × Nat × Nat):Nat × Nat:=(p.1,p.2.1)
end
section
variable {prog:Program} {w:World} {A:Around} {E:Value->Shared->Prop} {s:Shared} {κ:SortKind} {lt:Keyed->Keyed->Bool} {a0:Array Keyed}
theorem wpS_set {σ:Type} {M:Model} {st st':σ} {Q:PUnit->σ->Prop} (h:Q ⟨⟩ st'):wpS M A E s (set st':StateT σ Sem PUnit) Q st:=by
 unfold wpS
 rw [StateT.run_set]
 exact wpAny_pure ⟨rfl,h⟩
end
section
variable {prog:Program} {w:World} {A:Around} {E:Value->Shared->Prop} {s:Shared} {κ:SortKind} {lt:Keyed->Keyed->Bool} {a0:Array Keyed}
theorem map_whr_modify (p:Array (Nat × Nat × Nat)) (i:Nat) (f:Nat × Nat × Nat->Nat × Nat × Nat) (hf:∀ x,whr (f x)=whr x):(p.modify i f).toList.map whr=p.toList.map whr:=by
 apply List.ext_getElem?
 intro k
 rw [List.getElem?_map,List.getElem?_map,Array.getElem?_toList,Array.getElem?_toList,Array.getElem?_modify]
 split
 ·cases p[k]? with
  | none=>rfl
  | some x=>show some (whr (f x))=some (whr x); rw [hf]
 ·rfl
theorem fewer2 (c:Bool) (n:Nat) (h:1 < n):(if c=true then n - 2 - 1 else n - 2) + 1 < n:=by
 split <;> (first|lia|omega)
end
end L2
namespace L2
open PySem PySem.Spec PyProof.Rows
abbrev Key:=Sum Int Str
def keyIs:Key->Value->Bool
 | .inl k,v=>Value.isInt k v
 | .inr x,v=>Value.isStrOf x v
def keyH (w:World):Key->Int
 | .inl k=>hashInt k
 | .inr x=>hashStr w x
theorem keyIs_shape:∀ {k:Key} {v:Value},keyIs k v=true->(∃ i t,k=Sum.inl i/\v=Value.int i t)\/(∃ x t,k=Sum.inr x/\v=Value.str x t)
 | .inl i,v,h=>by
  obtain ⟨t,e⟩:=Value.isInt_shape (k:=i) (v:=v) h
  exact .inl ⟨i,t,rfl,e⟩
 | .inr x,v,h=>by
  obtain ⟨t,e⟩:=Value.isStrOf_shape (x:=x) (v:=v) h
  exact .inr ⟨x,t,rfl,e⟩
theorem keyIs_int (i:Int) (t:Tok):keyIs (.inl i) (.int i t)=true:=by simp [keyIs,Value.isInt]
theorem keyIs_str (x:Str) (t:Tok):keyIs (.inr x) (.str x t)=true:=by simp [keyIs,Value.isStrOf]
theorem key_ll (a b:Int):decide ((Sum.inl a:Key)=Sum.inl b)=(a == b):=by
 by_cases e:a=b
 ·subst e; simp
 ·have h:¬ (Sum.inl a:Key)=Sum.inl b:=fun q=>e (Sum.inl.inj q)
  rw [decide_eq_false h]
  exact (beq_eq_false_iff_ne.mpr e).symm
theorem key_rr (a b:Str):decide ((Sum.inr a:Key)=Sum.inr b)=decide (a=b):=by
 by_cases e:a=b
 ·subst e; simp
 ·have h:¬ (Sum.inr a:Key)=Sum.inr b:=fun q=>e (Sum.inr.inj q)
  rw [decide_eq_false h,decide_eq_false e]
theorem key_lr (a:Int) (b:Str):decide ((Sum.inl a:Key)=Sum.inr b)=false:=decide_eq_false (fun q=>nomatch q)
theorem key_rl (a:Str) (b:Int):decide ((Sum.inr a:Key)=Sum.inl b)=false:=decide_eq_false (fun q=>nomatch q)
def mixKind (prog:Program) (w:World):PySem.KeyKind prog w Key where
 is:=keyIs
 hash:=keyH w
 inj:=fun v a b ha hb=>by
  rcases keyIs_shape ha with ⟨i,t,rfl,rfl⟩ | ⟨x,t,rfl,rfl⟩
  ·rcases keyIs_shape hb with ⟨j,u,rfl,e⟩ | ⟨y,u,rfl,e⟩
   ·injection e with e1 _; rw [e1]
   ·exact nomatch e
  ·rcases keyIs_shape hb with ⟨j,u,rfl,e⟩ | ⟨y,u,rfl,e⟩
   ·exact nomatch e
   ·injection e with e1 _; rw [e1]
 byValue:=fun k v h=>by
  rcases keyIs_shape h with ⟨i,t,rfl,rfl⟩ | ⟨x,t,rfl,rfl⟩ <;> rfl
 pyHash:=fun hv h=>by
  rcases keyIs_shape hv with ⟨i,t,rfl,rfl⟩ | ⟨x,t,rfl,rfl⟩
  ·exact wpAny_pyHash_int h
  ·exact wpAny_pyHash_str h
 eqBool:=fun hu hv h=>by
  rcases keyIs_shape hu with ⟨i,t,rfl,rfl⟩ | ⟨x,t,rfl,rfl⟩
  ·rcases keyIs_shape hv with ⟨j,u,rfl,rfl⟩ | ⟨y,u,rfl,rfl⟩
   ·rw [key_ll] at h; exact wpAny_eqBool_int h
   ·rw [key_lr] at h; exact SeqAt.EqAt.int_str i t y u _ _ _ _ h
  ·rcases keyIs_shape hv with ⟨j,u,rfl,rfl⟩ | ⟨y,u,rfl,rfl⟩
   ·rw [key_rl] at h; exact SeqAt.EqAt.str_int x t j u _ _ _ _ h
   ·rw [key_rr] at h; exact wpAny_eqBool_str h
 «strs»:=fun k x t v h=>by
  rcases keyIs_shape h with ⟨i,u,rfl,e⟩ | ⟨y,u,rfl,e⟩
  ·exact nomatch e
  ·injection e with e1 _
   subst e1
   cases v <;> rfl
theorem mixKind_int (prog:Program) (w:World) (i:Int) (t:Tok):(mixKind prog w).is (.inl i) (.int i t)=true:=keyIs_int i t
theorem mixKind_str (prog:Program) (w:World) (x:Str) (t:Tok):(mixKind prog w).is (.inr x) (.str x t)=true:=keyIs_str x t
inductive V where
 | non | bl (b:Bool) | int (i:Int) | str (x:Str) | byt (b:Array UInt8) | flt (b:UInt64) | ref (a:Addr) | ty (n:String)
 deriving DecidableEq
def RelV:V->Value->Prop
 | .non,u=>u=Value.none
 | .bl b,u=>u=Value.bool b
 | .int i,u=>∃ t,u=Value.int i t
 | .str x,u=>∃ t,u=Value.str x t
 | .byt b,u=>∃ t,u=Value.bytes b t
 | .flt b,u=>∃ t,u=Value.float b t
 | .ref a,u=>u=Value.ref a
 | .ty n,u=>u=Value.type n
abbrev Vals:List V->List Value->Prop:=Paired RelV
theorem Vals.length {xs:List V} {us:List Value} (r:Vals xs us):xs.length=us.length:=Paired.length r
theorem Vals.get:∀ {xs:List V} {us:List Value} {i:Nat} {x:V},Vals xs us->xs[i]? = some x->∃ u,us[i]? = some u/\RelV x u
 | _,_,_,_,.nil,e=>by simp at e
 | _,_,0,_,.cons r _,e=>by simp at e; subst e; exact ⟨_,rfl,r⟩
 | _,_,i + 1,x,.cons _ t,e=>by
  obtain ⟨u,h1,h2⟩:=Vals.get (i:=i) (x:=x) t (by simpa using e)
  exact ⟨u,by simpa using h1,h2⟩
theorem Vals.set {x:V} {u:Value} (r:RelV x u):∀ {xs:List V} {us:List Value} (i:Nat),Vals xs us->Vals (xs.set i x) (us.set i u)
 | _,_,_,.nil=>.nil
 | _,_,0,.cons _ t=>.cons r t
 | _,_,i + 1,.cons q t=>.cons q (Vals.set r i t)
theorem Vals.append:∀ {xs ys:List V} {us ws:List Value},Vals xs us->Vals ys ws->Vals (xs ++ ys) (us ++ ws)
 | _,_,_,_,.nil,s=>s
 | _,_,_,_,.cons r t,s=>.cons r (Vals.append t s)
theorem Vals.take:∀ {xs:List V} {us:List Value} (n:Nat),Vals xs us->Vals (xs.take n) (us.take n)
 | _,_,0,_=>.nil
 | _,_,_ + 1,.nil=>.nil
 | _,_,n + 1,.cons r t=>.cons r (Vals.take n t)
theorem Vals.drop:∀ {xs:List V} {us:List Value} (n:Nat),Vals xs us->Vals (xs.drop n) (us.drop n)
 | _,_,0,r=>r
 | _,_,_ + 1,.nil=>.nil
 | _,_,n + 1,.cons _ t=>Vals.drop n t
def RelO:Option V->Option Value->Prop
 | some v,some u=>RelV v u
 | none,none=>True
 | _,_=>False
def KV {κ:Type}:List (κ × V)->List (κ × Value)->Prop:=Paired fun (p:κ × V) (q:κ × Value)=>p.1=q.1/\RelV p.2 q.2
def kV:Key->V
 | .inl i=>.int i
 | .inr x=>.str x
inductive HO where
 /-- a list -/
 | lst (xs:List V)
 /-- a tuple (never changes) -/
 | tup (xs:List V)
 /-- a dict whose keys are ints and texts; one whose keys are tuples of ints and texts (the empty one is both) -/
 | dK (kvs:List (Key × V)) | dT (kvs:List (List Key × V))
 /-- a set of ints: its members,its size -/
 | set (S:Int->Bool) (n:Nat)
 /-- an instance of the class at C,its dict at dx,its attributes -/
 | ins (C dx:Addr) (fs:List (Str × V))
 /-- the dict of the instance at x -/
 | own (x:Addr)
 /-- the dict of an exception -/
 | xd (fs:List (Str × V))
 /-- a bound method,f of x -/
 | met (f x:Addr)
 /-- a range object lo,lo + 1,.. below hi -/
 | rng (lo hi:Int)
 /-- a thing that is known to the object (the script; a dict while a loop walks it): read,never written while it is so -/
 | frz (o:Obj) (u:HO)
 /-- a code object's table -/
 | tbl (ps:Array Value)
 /-- any other thing,by what is true of its one object (a def of one's own: SetO a S n:=HO.ext fun h=>..) -/
 | ext (φ:Heap->Prop)
abbrev Hp:=Addr->Option HO
def upd (H:Hp) (a:Addr) (o:HO):Hp:=fun b=>if b=a then some o else H b
theorem upd_same {H:Hp} {a:Addr} {o:HO}:upd H a o a=some o:=by unfold upd; rw [if_pos rfl]
theorem upd_ne {H:Hp} {a b:Addr} {o:HO} (h:b ≠ a):upd H a o b=H b:=by unfold upd; rw [if_neg h]
theorem upd_upd {H:Hp} {a:Addr} {o u:HO}:upd (upd H a o) a u=upd H a u:=by
 funext b; unfold upd; split <;> rfl
theorem ne_of {H:Hp} {a b:Addr} {o u:HO} (h:H a=some o) (h':H b=some u) (d:o ≠ u):a ≠ b:=by
 intro e; subst e; rw [h] at h'; exact d (Option.some.inj h')
theorem ne_of_none {H:Hp} {a b:Addr} {o:HO} (h:H a=some o) (h':H b=none):a ≠ b:=by
 intro e; subst e; rw [h] at h'; cases h'
def TupD (h:Heap) (a:Addr):Prop:=∀ o,h.get? a=some o->o.dict=none
theorem TupD.new {h:Heap} {o:Obj} (hd:o.dict=none) (hf:o.isFreed=false):TupD (h.push o) h.objs.size:=fun o' e=>by
 rw [Heap.get?_push_size _ hf] at e
 cases e
 exact hd
section
variable (P:Program) (w:World)
def ObjOk (H:Hp) (h:Heap) (a:Addr):HO->Prop
 | .lst xs=>xs.length<=sizeLine/\∃ (its:List Value) (n:Nat),Vals xs its/\h.get? a=some { cls:=.type "list",data:=.seq its.toArray n }
 | .tup xs=>xs.length<=sizeLine/\∃ its:List Value,Vals xs its/\IsTup h a its.toArray/\TupD h a
 | .dK kvs=>kvs.length<=sizeLine/\(a == sysModules)=false/\∃ vs,KV kvs vs/\h.DictOf (mixKind P w) a vs
 | .dT kvs=>kvs.length<=sizeLine/\(a == sysModules)=false/\∃ xs:List (List Key × Addr × Value),
   Paired (fun (p:List Key × V) (q:List Key × Addr × Value)=>p.1=q.1/\H q.2.1=some (.tup (p.1.map kV))/\RelV p.2 q.2.2) kvs xs /\
   ∃ o es ep,h.get? a=some o/\o.ExactDict/\o.data=.dict es ep/\es.toList=xs.map (entryOfKey (tupleKind (mixKind P w)))/\(xs.map (·.1)).Nodup
 | .set S n=>h.SetOf (intKind P w) a S n
 | .ins C dx fs=>H dx=some (.own a)/\fs.length<=1000/\dx ≠ a/\h.get? a=some (PySem.W.instObj C dx) /\
   ∃ mA,h.Ns1 dx mA/\(∀ f,RelO (fs.lookup f) (mA f))/\PySem.Within mA (fs.map (·.1))
 | .own _=>∃ o,h.get? a=some o
 | .xd fs=>∃ mA,h.Ns1 a mA/\∀ f,RelO (fs.lookup f) (mA f)
 | .rng lo hi=>∃ t u v,h.get? a=some { cls:=.type "range",data:=.fields #[.int lo t,.int hi u,.int 1 v] }
 | .frz o u=>h.get? a=some o/\ObjOk H h a u
 | .tbl ps=>h.get? a=some { cls:=.none,data:=.fields ps }
 | .met f x=>h.get? a=some (PySem.W.methodObj (.ref f) (.ref x))
 | .ext φ=>φ h/\(∃ o,h.get? a=some o)/\∀ h1 h2:Heap,φ h1->(∀ o,h1.get? a=some o->h2.get? a=some o)->φ h2
def HOk (H:Hp) (h:Heap):Prop:=∀ a o,H a=some o->ObjOk P w H h a o
end
section
variable {P:Program} {w:World} {H H':Hp} {h h':Heap} {a:Addr} {o:HO}
theorem ObjOk.lt (x:ObjOk P w H h a o):a < h.objs.size:=by
 cases o with
 | lst xs=>obtain ⟨_,_,_,_,e⟩:=x; exact Heap.lt_size e
 | tup xs=>obtain ⟨_,_,_,p,_⟩:=x; exact p.lt
 | dK kvs=>obtain ⟨_,_,_,_,o,_,_,e,_⟩:=x; exact Heap.lt_size e
 | dT kvs=>obtain ⟨_,_,_,_,o,_,_,e,_⟩:=x; exact Heap.lt_size e
 | set S n=>obtain ⟨o,_,_,_,e,_⟩:=x; exact Heap.lt_size e
 | ins C dx fs=>obtain ⟨_,_,_,e,_⟩:=x; exact Heap.lt_size e
 | own y=>obtain ⟨_,e⟩:=x; exact Heap.lt_size e
 | xd fs=>obtain ⟨_,⟨_,_,_,e,_⟩,_⟩:=x; exact Heap.lt_size e
 | rng lo hi=>obtain ⟨_,_,_,e⟩:=x; exact Heap.lt_size e
 | frz ob u=>obtain ⟨e,_⟩:=x; exact Heap.lt_size e
 | tbl ps=>exact Heap.lt_size (show h.get? a=some _ from x)
 | met f y=>exact Heap.lt_size (show h.get? a=some _ from x)
 | ext φ=>obtain ⟨_,⟨_,e⟩,_⟩:=x; exact Heap.lt_size e
theorem Paired.mapP {α β:Type} {F G:α->β->Prop}:∀ {l₁:List α} {l₂:List β},Paired F l₁ l₂->(∀ a b,F a b->G a b)->Paired G l₁ l₂
 | _,_,.nil,_=>.nil
 | _,_,.cons r t,f=>.cons (f _ _ r) (Paired.mapP t f)
theorem ObjOk.stay (x:ObjOk P w H h a o) (k:∀ b u,(b=a\/H b=some (.own a))->h.get? b=some u->h'.get? b=some u)
  (ho:∀ b,H b=some (.own a)->H' b=some (.own a)) (ht:∀ b xs,H b=some (.tup xs)->H' b=some (.tup xs)):ObjOk P w H' h' a o:=by
 induction o with
 | lst xs=>obtain ⟨z,its,n,r,e⟩:=x; exact ⟨z,its,n,r,k _ _ (.inl rfl) e⟩
 | tup xs=>
  obtain ⟨z,its,r,⟨ob,e,c⟩,dn⟩:=x
  have e':=k _ _ (.inl rfl) e
  exact ⟨z,its,r,⟨ob,e',c⟩,fun o q=>by rw [e'] at q; cases q; exact dn _ e⟩
 | dK kvs=>obtain ⟨z,y,vs,r,ob,es,ep,e,c⟩:=x; exact ⟨z,y,vs,r,ob,es,ep,k _ _ (.inl rfl) e,c⟩
 | dT kvs=>
  obtain ⟨z,y,xs,r,ob,es,ep,e,c⟩:=x
  exact ⟨z,y,xs,Paired.mapP r fun p q z=>⟨z.1,ht _ _ z.2.1,z.2.2⟩,ob,es,ep,k _ _ (.inl rfl) e,c⟩
 | set S n=>obtain ⟨ob,es,ep,t,e,c⟩:=x; exact ⟨ob,es,ep,t,k _ _ (.inl rfl) e,c⟩
 | ins C dx fs=>
  obtain ⟨d,z,ne,e,mA,⟨od,es,ep,e2,c⟩,r⟩:=x
  exact ⟨ho _ d,z,ne,k _ _ (.inl rfl) e,mA,⟨od,es,ep,k _ _ (.inr d) e2,c⟩,r⟩
 | own y=>obtain ⟨ob,e⟩:=x; exact ⟨ob,k _ _ (.inl rfl) e⟩
 | xd fs=>obtain ⟨mA,⟨od,es,ep,e,c⟩,r⟩:=x; exact ⟨mA,⟨od,es,ep,k _ _ (.inl rfl) e,c⟩,r⟩
 | rng lo hi=>obtain ⟨t,u,v,e⟩:=x; exact ⟨t,u,v,k _ _ (.inl rfl) e⟩
 | frz ob u ih=>obtain ⟨e,q⟩:=x; exact ⟨k _ _ (.inl rfl) e,ih q⟩
 | tbl ps=>
  have e:h.get? a=some { cls:=.none,data:=.fields ps }:=x
  show h'.get? a=some { cls:=.none,data:=.fields ps }
  exact k a _ (.inl rfl) e
 | met f y=>
  have e:h.get? a=some (PySem.W.methodObj (.ref f) (.ref y)):=x
  show h'.get? a=some (PySem.W.methodObj (.ref f) (.ref y))
  exact k a _ (.inl rfl) e
 | ext φ=>obtain ⟨p,⟨o,e⟩,st⟩:=x; exact ⟨st _ _ p fun o q=>k _ _ (.inl rfl) q,⟨o,k _ _ (.inl rfl) e⟩,st⟩
theorem HOk.lt (x:HOk P w H h) (e:H a=some o):a < h.objs.size:=(x a o e).lt
theorem HOk.fresh (x:HOk P w H h) (e:h.objs.size<=a):H a=none:=by
 cases q:H a with
 | none=>rfl
 | some u=>exact absurd (Nat.lt_of_lt_of_le (x.lt q) e) (Nat.lt_irrefl _)
theorem HOk.kept (x:HOk P w H h) (k:∀ b u,h.get? b=some u->h'.get? b=some u):HOk P w H h':=fun a o e=>
 (x a o e).stay (fun b u _ q=>k b u q) (fun _ q=>q) fun _ _ q=>q
theorem HOk.laid (x:HOk P w H h) (k:∀ b u,h.get? b=some u->h'.get? b=some u) (hp:h.objs.size<=a) (new:ObjOk P w (upd H a o) h' a o):HOk P w (upd H a o) h':=fun b u e=>by
 have hn:=x.fresh hp
 by_cases hb:b=a
 ·subst hb; rw [upd_same] at e; cases e; exact new
 ·rw [upd_ne hb] at e
  exact (x b u e).stay (fun c v _ q=>k c v q) (fun c q=>by rw [upd_ne (ne_of_none q hn)]; exact q) fun c xs q=>by rw [upd_ne (ne_of_none q hn)]; exact q
end
def Rd (H:Hp) (a:Addr) (u:HO):Prop:=H a=some u\/∃ o,H a=some (.frz o u)
theorem Rd.ok {P:Program} {w:World} {H:Hp} {h:Heap} {a:Addr} {u:HO} (r:Rd H a u) (x:HOk P w H h):ObjOk P w H h a u:=by
 rcases r with r | ⟨o,r⟩
 ·exact x a u r
 ·obtain ⟨_,q⟩:=x a _ r
  exact q
def Mut:Option HO->Prop
 | some (.lst _)=>True
 | some (.dK _)=>True
 | some (.dT _)=>True
 | some (.set _ _)=>True
 | some (.ins _ _ _)=>True
 | some (.ext _)=>True
 | _=>False
section
variable {P:Program} {w:World} {H:Hp} {h h':Heap} {x e:Addr} {o':HO}
theorem HOk.write (ok:HOk P w H h) (mu:Mut (H x)) (he:e=x\/H e=some (.own x)) (k:∀ b u,b ≠ e->h.get? b=some u->h'.get? b=some u) (heo:∃ u,h'.get? e=some u)
  (new:ObjOk P w (upd H x o') h' x o'):HOk P w (upd H x o') h':=fun b u q=>by
 have nown:∀ c y,H c=some (.own y)->c ≠ x:=fun c y r z=>by subst z; rw [r] at mu; exact mu
 have ntup:∀ c xs,H c=some (.tup xs)->c ≠ x:=fun c xs r z=>by subst z; rw [r] at mu; exact mu
 by_cases hb:b=x
 ·subst hb; rw [upd_same] at q; cases q; exact new
 ·rw [upd_ne hb] at q
  by_cases hbe:b=e
  ·have q':H b=some (.own x):=by
    rcases he with z | z
    ·exact absurd (hbe.trans z) hb
    ·rw [hbe]; exact z
   rw [q] at q'; cases q'
   obtain ⟨v,hv⟩:=heo
   exact ⟨v,by rw [hbe]; exact hv⟩
  ·refine (ok b u q).stay (fun c v hc r=>k c v ?_ r) (fun c r=>by rw [upd_ne (nown c b r)]; exact r) fun c xs r=>by rw [upd_ne (ntup c xs r)]; exact r
   rcases hc with rfl | hc
   ·exact hbe
   ·rintro rfl
    rcases he with z | z
    ·exact nown c b hc z
    ·rw [hc] at z; cases z; exact hb rfl
end
structure Un (fs ex:List Addr) (H H':Hp) (h h':Heap):Prop where
 keep:∀ b o,h.get? b=some o->H b=none->b ∉ fs->b ∉ ex->h'.get? b=some o
 slot:∀ b o,h.get? b=some o->H b=none->b ∈ fs->b ∉ ex->∃ sl,h'.get? b=some { o with slots:=sl }
 free:∀ b o,h.get? b=some o->H b=none->b ∉ ex->H' b=none
 there:∀ b o,h.get? b=some o->b ∉ ex->∃ o',h'.get? b=some o'
 tups:∀ b xs,H b=some (.tup xs)->H' b=some (.tup xs)
 frzs:∀ b o u,H b=some (.frz o u)->H' b=some (.frz o u)
 tbls:∀ b ps,H b=some (.tbl ps)->∃ more,H' b=some (.tbl (ps ++ more))
section
variable {fs fs' ex ex':List Addr} {H H1 H2:Hp} {h h1 h2 h':Heap} {a x e:Addr} {o:HO}
theorem Un.any (u:Un fs ex H H1 h h1) {b:Addr} {ob:Obj} (q:h.get? b=some ob) (n:H b=none) (hx:b ∉ ex):∃ sl,h1.get? b=some { ob with slots:=sl }:=by
 by_cases hb:b ∈ fs
 ·exact u.slot b ob q n hb hx
 ·exact ⟨ob.slots,u.keep b ob q n hb hx⟩
theorem Un.kept (k:∀ b u,h.get? b=some u->h'.get? b=some u):Un fs ex H H h h':=
 ⟨fun b ob q _ _ _=>k b ob q,fun b ob q _ _ _=>⟨ob.slots,k b ob q⟩,fun _ _ _ n _=>n,fun b ob q _=>⟨ob,k b ob q⟩,fun _ _ q=>q,fun _ _ _ q=>q,fun _ ps q=>⟨#[],by rw [q]; simp⟩⟩
theorem Un.refl:Un fs ex H H h h:=Un.kept fun _ _ q=>q
theorem Un.laid (k:∀ b u,h.get? b=some u->h'.get? b=some u) (hp:h.objs.size<=a) (hn:H a=none):Un fs ex H (upd H a o) h h' where
 keep:=fun b u q _ _ _=>k b u q
 slot:=fun b u q _ _ _=>⟨u.slots,k b u q⟩
 free:=fun b u q n _=>by rw [upd_ne (Nat.ne_of_lt (Nat.lt_of_lt_of_le (Heap.lt_size q) hp))]; exact n
 there:=fun b u q _=>⟨u,k b u q⟩
 tups:=fun b xs q=>by rw [upd_ne (ne_of_none q hn)]; exact q
 frzs:=fun b u xs q=>by rw [upd_ne (ne_of_none q hn)]; exact q
 tbls:=fun b ps q=>⟨#[],by rw [upd_ne (ne_of_none q hn),q]; simp⟩
theorem Un.write (mu:Mut (H x)) (he:e=x\/H e=some (.own x)) (k:∀ b u,b ≠ e->h.get? b=some u->h'.get? b=some u) (heo:∃ u,h'.get? e=some u):Un fs ex H (upd H x o) h h':=by
 have hx:∀ b,H b=none->b ≠ x:=fun b n z=>by subst z; rw [n] at mu; exact mu
 have hb:∀ b,H b=none->b ≠ e:=fun b n z=>by
  subst z
  rcases he with r | r
  ·exact hx b n r
  ·rw [n] at r; cases r
 have hm:∀ b u,H b=some u->¬ Mut (some u)->b ≠ x:=fun b u q nm z=>by subst z; rw [q] at mu; exact nm mu
 refine ⟨fun b u q n _ _=>k b u (hb b n) q,fun b u q n _ _=>⟨u.slots,k b u (hb b n) q⟩,fun b u q n _=>by rw [upd_ne (hx b n)]; exact n,fun b u q _=>?_,
  fun b xs q=>by rw [upd_ne (hm b _ q fun z=>z)]; exact q,fun b u xs q=>by rw [upd_ne (hm b _ q fun z=>z)]; exact q,fun b ps q=>⟨#[],by rw [upd_ne (hm b _ q fun z=>z),q]; simp⟩⟩
 by_cases hbe:b=e
 ·subst hbe; exact heo
 ·exact ⟨u,k b u hbe q⟩
end
def trk (h:Heap) (H:Hp):List Addr:=(List.range h.objs.size).filter fun a=>(H a).isSome
def hidT (h:Heap) (H:Hp):Heap:=PySem.W.hideAll h (trk h H)
theorem hidT_size (h:Heap) (H:Hp):(hidT h H).objs.size=h.objs.size:=PySem.W.hideAll_size _ _
theorem hidT_get {h:Heap} {H:Hp} {b:Addr} {o:Obj} (e:h.get? b=some o) (n:H b=none):(hidT h H).get? b=some o:=
 PySem.W.hideAll_get _ e fun hm=>by
  have q:(H b).isSome=true:=(List.mem_filter.mp hm).2
  rw [n] at q; simp at q
theorem of_hidT {h:Heap} {H:Hp} {b:Addr} {o:Obj} (e:(hidT h H).get? b=some o):h.get? b=some o/\H b=none:=by
 have e':h.get? b=some o:=PySem.W.of_hideAll (trk h H) e
 refine ⟨e',?_⟩
 cases q:H b with
 | none=>rfl
 | some x=>
  have hm:b ∈ trk h H:=List.mem_filter.mpr ⟨List.mem_range.mpr (Heap.lt_size e'),by simp [q]⟩
  have z:(hidT h H).get? b=none:=PySem.W.hideAll_none (trk h H) hm
  rw [z] at e; cases e
structure Mod (K:PySem.W.Frag) (mg:Str->Option Value) (base:Heap):Prop where
 kin:K.In base
 glob:base.Ns mainGlobals mg
 blt:∃ mb,base.Ns builtinsNs mb/\∀ x:Str,x ≠ "__name__"->mb x=bootBuiltins x
 nolimit:base.NoLimit
structure Cx where
 prog:Program
 w:World
 K:PySem.W.Frag
 mg:Str->Option Value
 base:Heap
 A:Around
 N:List Str
 s₀:Shared
 H₀:Hp
 env:Env
 outer:List Env
 stack:List Env
 ex:List Addr
 fn:Str->Bool
 calm:Bool
 pn:List (Addr × Obj)
 xe:Value->Shared->Prop
def frs (l:List Env):List Addr:=l.filterMap (·.frame)
abbrev Cx.fs (X:Cx):List Addr:=frs X.outer
def Vis (sc:Scope) (x:Str):Prop:=sc.names.lookup x=some .local\/sc.names.lookup x=some .cell\/sc.names.lookup x=some .free
def Loc (sc:Scope) (x:Str):Prop:=sc.names.lookup x=some .local\/sc.names.lookup x=some .cell
def Look (env:Env) (h:Heap) (m:Str->Option Value) (x:Str) (u:Value):Prop:=
 (env.kindOf x=some .local/\m x=some u)\/((env.kindOf x=some .cell\/env.kindOf x=some .free)/\∃ c,env.cells.lookup x=some c/\h.IsCell c (some u))
structure Cx.Ok (X:Cx):Prop where
 mod:Mod X.K X.mg X.base
 kind:X.env.scope.kind=.function
 glob:X.env.globals=mainGlobals
 blt:X.env.builtins=builtinsNs
 above:X.s₀.heap.objs.size<=X.env.locals
 inj:∀ x y c,X.env.cells.lookup x=some c->X.env.cells.lookup y=some c->x=y
 has:∀ x,(X.env.kindOf x=some .cell\/X.env.kindOf x=some .free)->∃ c,X.env.cells.lookup x=some c
 cab:∀ x c,X.fn x=true->X.env.cells.lookup x=some c->X.s₀.heap.objs.size<=c
 hd:X.calm=true->X.A.handled=none
 frames:X.A.frames=some X.stack
 stk:X.stack=X.outer\/(X.stack=X.env :: X.outer/\X.env.frame=some X.env.locals)
 exf:∀ b ∈ X.ex,b ≠ X.env.locals/\∀ x c,X.env.cells.lookup x=some c->c ≠ b
 bs:∀ b o,X.base.get? b=some o->X.s₀.heap.get? b=some o/\X.H₀ b=none
 bsz:X.base.objs.size<=X.s₀.heap.objs.size
 noex:∀ b o,X.base.get? b=some o->b ∉ X.ex
 exfs:∀ b ∈ X.ex,b ∉ X.fs
 funs:X.s₀.heap.FunFrames X.base X.outer
 frf:∀ b ∈ X.fs,X.H₀ b=none
structure Inv (X:Cx) (pins:List (Addr × Obj)) (σ:List (Option V)) (H:Hp) (s:Shared):Prop where
 ok:X.Ok
 os:s.os=X.s₀.os
 bare:AllBare s.gens
 base:Un X.fs X.ex X.H₀ H X.s₀.heap s.heap
 loc:∃ m,s.heap.Ns X.env.locals m/\∀ (i:Nat) (x:Str) (v:V),X.N[i]? = some x->σ[i]? = some (some v)->Vis X.env.scope x->∃ u,RelV v u/\Look X.env s.heap m x u
 cell:∀ x c,X.env.cells.lookup x=some c->∃ v,s.heap.IsCell c v
 free:H X.env.locals=none
 freeC:∀ x c,X.env.cells.lookup x=some c->H c=none
 pin:∀ p ∈ X.pn ++ pins,s.heap.get? p.1=some p.2/\H p.1=none/\p.1 ≠ X.env.locals/\p.1 ∉ X.fs/\∀ v,p.2.data ≠ .cell v
 hok:HOk X.prog X.w H s.heap
 len:σ.length=X.N.length
section
variable {X:Cx} {pins:List (Addr × Obj)} {σ:List (Option V)} {H H':Hp} {s:Shared} {h':Heap}
theorem Cx.Ok.nofr (ok:X.Ok) {b:Addr} {o:Obj} (e:X.base.get? b=some o):b ∉ X.fs:=fun hb=>by
 have:=(ok.funs.mem hb).1
 rw [e] at this; cases this
theorem Inv.bs (I:Inv X pins σ H s):∀ b o,X.base.get? b=some o->s.heap.get? b=some o/\H b=none:=fun b o e=>
 ⟨I.base.keep b o (I.ok.bs b o e).1 (I.ok.bs b o e).2 (I.ok.nofr e) (I.ok.noex b o e),I.base.free b o (I.ok.bs b o e).1 (I.ok.bs b o e).2 (I.ok.noex b o e)⟩
theorem Inv.bk (I:Inv X pins σ H s):∀ b o,X.base.get? b=some o->s.heap.get? b=some o:=fun b o e=>(I.bs b o e).1
theorem Inv.mod (I:Inv X pins σ H s):Mod X.K X.mg X.base:=I.ok.mod
theorem Inv.kIn (I:Inv X pins σ H s):X.K.In s.heap:=I.ok.mod.kin.keeps I.bk
theorem Inv.lt (I:Inv X pins σ H s):X.env.locals < s.heap.objs.size:=let ⟨_,hn,_⟩:=I.loc; hn.lt
theorem Inv.sz (I:Inv X pins σ H s):X.s₀.heap.objs.size<=s.heap.objs.size:=Nat.le_trans I.ok.above (Nat.le_of_lt I.lt)
theorem Inv.nofs (I:Inv X pins σ H s) {a:Addr} (h:s.heap.objs.size<=a):a ∉ X.fs:=fun hb=>by
 obtain ⟨_,o,ho,_⟩:=I.ok.funs.mem hb
 exact absurd (Nat.lt_of_lt_of_le (Heap.lt_size ho) (Nat.le_trans I.sz h)) (Nat.lt_irrefl _)
theorem Inv.cne (I:Inv X pins σ H s):∀ x c,X.env.cells.lookup x=some c->c ≠ X.env.locals:=fun x c e z=>by
 obtain ⟨v,o,ho,hd⟩:=I.cell x c e
 obtain ⟨m,⟨o',es,ep,ho',hd',_⟩,_⟩:=I.loc
 rw [z,ho'] at ho; cases ho; rw [hd'] at hd; cases hd
theorem Inv.funs (I:Inv X pins σ H s):s.heap.FunFrames X.base X.outer:=by
 have all:∀ (l:List Env),(∀ b ∈ frs l,b ∈ X.fs)->X.s₀.heap.FunFrames X.base l->s.heap.FunFrames X.base l:=by
  intro l
  induction l with
  | nil=>intro _ _; trivial
  | cons env r ih=>
   intro hs hl
   obtain ⟨hk,⟨L,o,hf,hn,ho,hd⟩,hr⟩:=hl
   have hL:L ∈ X.fs:=hs L (by unfold frs; rw [List.filterMap_cons,hf]; exact List.mem_cons_self)
   obtain ⟨sl,e⟩:=I.base.slot L o ho (I.ok.frf L hL) hL fun z=>I.ok.exfs L z hL
   exact ⟨hk,⟨L,_,hf,hn,e,hd⟩,ih (fun b hb=>hs b (by unfold frs; rw [List.filterMap_cons,hf]; exact List.mem_cons_of_mem _ hb)) hr⟩
 exact all X.outer (fun _ hb=>hb) I.ok.funs
theorem Inv.stack (I:Inv X pins σ H s):s.heap.FunFrames X.base X.stack:=by
 rcases I.ok.stk with e | ⟨e,hf⟩
 ·rw [e]; exact I.funs
 ·rw [e]
  obtain ⟨m,hn,_⟩:=I.loc
  refine .cons (by rw [I.ok.kind]; decide) hf hn ?_ I.funs
  exact Heap.get?_none_of_le (Nat.le_trans I.ok.bsz I.ok.above)
theorem Inv.stkSub (I:Inv X pins σ H s):∀ b ∈ frs X.stack,b ∈ X.env.locals :: X.fs:=fun b hb=>by
 rcases I.ok.stk with e | ⟨e,hf⟩
 ·rw [e] at hb; exact List.mem_cons_of_mem _ hb
 ·rw [e] at hb
  unfold frs at hb
  rw [List.filterMap_cons,hf] at hb
  exact hb
theorem Inv.stkFree (I:Inv X pins σ H s):∀ b ∈ frs X.stack,H b=none:=fun b hb=>by
 rcases List.mem_cons.mp (I.stkSub b hb) with e | hb
 ·rw [e]; exact I.free
 ·obtain ⟨_,o,ho,_⟩:=I.ok.funs.mem hb
  exact I.base.free b o ho (I.ok.frf b hb) fun z=>I.ok.exfs b z hb
theorem Inv.step {g':Array GenState} {t':Nat} {d':Drawn} {ch:List Addr} (I:Inv X pins σ H s)
  (hch:∀ b ∈ ch,(b ∈ X.ex\/X.s₀.heap.objs.size<=b)/\b ≠ X.env.locals/\(∀ x c,X.env.cells.lookup x=some c->c ≠ b)/\∀ p ∈ X.pn ++ pins,p.1 ≠ b)
  (keep:∀ b o,b ≠ X.env.locals->b ∉ X.fs->b ∉ ch->s.heap.get? b=some o->H b=none->h'.get? b=some o)
  (slot:∀ b o,b ≠ X.env.locals->b ∈ X.fs->b ∉ ch->s.heap.get? b=some o->H b=none->∃ sl,h'.get? b=some { o with slots:=sl }) (free:∀ b o,b ∉ ch->s.heap.get? b=some o->H b=none->H' b=none)
  (there:∀ b o,b ∉ ch->s.heap.get? b=some o->∃ o',h'.get? b=some o')
  (tups:∀ b xs,H b=some (.tup xs)->H' b=some (.tup xs)) (frzs:∀ b o u,H b=some (.frz o u)->H' b=some (.frz o u)) (tbls:∀ b ps,H b=some (.tbl ps)->∃ more,H' b=some (.tbl (ps ++ more)))
  (ns:∀ m,s.heap.Ns X.env.locals m->h'.Ns X.env.locals m) (hok:HOk X.prog X.w H' h') (hg:AllBare g') :
  Inv X pins σ H' { s with heap:=h',gens:=g',drawn:=d',toks:=t' }:=by
 have neL:∀ b o,X.s₀.heap.get? b=some o->b ≠ X.env.locals:=fun b o e=>Nat.ne_of_lt (Nat.lt_of_lt_of_le (Heap.lt_size e) I.ok.above)
 have neC:∀ b o,X.s₀.heap.get? b=some o->b ∉ X.ex->b ∉ ch:=fun b o e hx hb=>by
  rcases (hch b hb).1 with z | z
  ·exact hx z
  ·exact absurd (Nat.lt_of_lt_of_le (Heap.lt_size e) z) (Nat.lt_irrefl _)
 have cellK:∀ x c,X.env.cells.lookup x=some c->∀ v,s.heap.IsCell c v->h'.IsCell c v:=fun x c e v ⟨o,ho,hd⟩=>by
  have nch:c ∉ ch:=fun z=>(hch c z).2.2.1 x c e rfl
  by_cases hc:c ∈ X.fs
  ·obtain ⟨sl,q⟩:=slot c o (I.cne x c e) hc nch ho (I.freeC x c e)
   exact ⟨_,q,hd⟩
  ·exact ⟨o,keep c o (I.cne x c e) hc nch ho (I.freeC x c e),hd⟩
 refine ⟨I.ok,I.os,hg,⟨fun b o e n hb hx=>?_,fun b o e n hb hx=>?_,fun b o e n hx=>?_,fun b o e hx=>?_,fun b xs e=>tups b xs (I.base.tups b xs e),fun b o xs e=>frzs b o xs (I.base.frzs b o xs e),fun b ps e=>?_⟩,?_,fun x c e=>?_,?_,fun x c e=>?_,fun p hp=>?_,hok,I.len⟩
 ·exact keep b o (neL b o e) hb (neC b o e hx) (I.base.keep b o e n hb hx) (I.base.free b o e n hx)
 ·obtain ⟨sl,e1⟩:=I.base.slot b o e n hb hx
  obtain ⟨sl',e2⟩:=slot b _ (neL b o e) hb (neC b o e hx) e1 (I.base.free b o e n hx)
  exact ⟨sl',e2⟩
 ·obtain ⟨o',e1⟩:=I.base.there b o e hx
  exact free b o' (neC b o e hx) e1 (I.base.free b o e n hx)
 ·obtain ⟨o',e1⟩:=I.base.there b o e hx
  exact there b o' (neC b o e hx) e1
 ·obtain ⟨m1,e1⟩:=I.base.tbls b ps e
  obtain ⟨m2,e2⟩:=tbls b _ e1
  exact ⟨m1 ++ m2,by rw [e2,Array.append_assoc]⟩
 ·obtain ⟨m,hn,hl⟩:=I.loc
  refine ⟨m,ns m hn,fun i x v e1 e2 e3=>?_⟩
  obtain ⟨u,r,l⟩:=hl i x v e1 e2 e3
  refine ⟨u,r,?_⟩
  rcases l with l | ⟨k,c,e,z⟩
  ·exact .inl l
  ·exact .inr ⟨k,c,e,cellK x c e _ z⟩
 ·obtain ⟨v,z⟩:=I.cell x c e
  exact ⟨v,cellK x c e v z⟩
 ·obtain ⟨m,⟨o,_,_,ho,_⟩,_⟩:=I.loc
  exact free _ o (fun z=>(hch _ z).2.1 rfl) ho I.free
 ·obtain ⟨v,o,ho,hd⟩:=I.cell x c e
  exact free c o (fun z=>(hch c z).2.2.1 x c e rfl) ho (I.freeC x c e)
 ·obtain ⟨e,n,ne,nf,d⟩:=I.pin p hp
  have nch:p.1 ∉ ch:=fun z=>(hch p.1 z).2.2.2 p hp rfl
  exact ⟨keep p.1 p.2 ne nf nch e n,free p.1 p.2 nch e n,ne,nf,d⟩
theorem Inv.un {t':Nat} (I:Inv X pins σ H s) (u:Un X.fs [] H H' s.heap h') (hok:HOk X.prog X.w H' h'):Inv X pins σ H' { s with heap:=h',toks:=t' }:=by
 obtain ⟨m,⟨o,es,ep,ho,r⟩,_⟩:=id I.loc
 obtain ⟨sl,hL⟩:=u.any ho I.free (by simp)
 exact I.step (g':=s.gens) (d':=s.drawn) (ch:=[]) (fun _ z=>nomatch z) (fun b o _ hb _ e n=>u.keep b o e n hb (by simp)) (fun b o _ hb _ e n=>u.slot b o e n hb (by simp)) (fun b o _ e n=>u.free b o e n (by simp)) (fun b o _ e=>u.there b o e (by simp)) u.tups u.frzs u.tbls (fun m' hm=>by
  obtain ⟨o',es',ep',ho',r'⟩:=hm
  rw [ho] at ho'; cases ho'
  exact ⟨_,es',ep',hL,r'⟩) hok I.bare
theorem Inv.call {g':Array GenState} {t':Nat} {d':Drawn} {ch:List Addr} (I:Inv X pins σ H s) (u:Un (frs X.stack) ch H H' s.heap h') (hok:HOk X.prog X.w H' h') (hg:AllBare g')
  (hch:∀ b ∈ ch,(b ∈ X.ex\/X.s₀.heap.objs.size<=b)/\b ≠ X.env.locals/\(∀ x c,X.env.cells.lookup x=some c->c ≠ b)/\∀ p ∈ X.pn ++ pins,p.1 ≠ b) :
  Inv X pins σ H' { s with heap:=h',gens:=g',drawn:=d',toks:=t' }:=by
 obtain ⟨m,⟨o,es,ep,ho,r⟩,_⟩:=id I.loc
 obtain ⟨sl,hL⟩:=u.any ho I.free fun z=>(hch _ z).2.1 rfl
 exact I.step (ch:=ch) hch (fun b o hL hb hc e n=>u.keep b o e n (fun z=>(List.mem_cons.mp (I.stkSub b z)).elim hL hb) hc) (fun b o _ _ hc e n=>u.any e n hc) (fun b o hc e n=>u.free b o e n hc) (fun b o hc e=>u.there b o e hc) u.tups u.frzs u.tbls (fun m' hm=>by
  obtain ⟨o',es',ep',ho',r'⟩:=hm
  rw [ho] at ho'; cases ho'
  exact ⟨_,es',ep',hL,r'⟩) hok hg
theorem Inv.turned {t':Nat} {it:Addr} (I:Inv X pins σ H s) (k:∀ b o,b ≠ it->s.heap.get? b=some o->h'.get? b=some o) (hn:H it=none) (hL:it ≠ X.env.locals)
  (h1:it ∈ X.ex\/X.s₀.heap.objs.size<=it) (h2:∀ x c,X.env.cells.lookup x=some c->c ≠ it) (h3:∀ p ∈ X.pn ++ pins,p.1 ≠ it):Inv X pins σ H { s with heap:=h',toks:=t' }:=by
 have nit:∀ b u,H b=some u->b ≠ it:=fun b u e z=>by rw [z,hn] at e; cases e
 refine I.step (g':=s.gens) (d':=s.drawn) (ch:=[it]) (fun b hb=>?_) (fun b o _ _ hc e _=>k b o (fun z=>hc (by simp [z])) e) (fun b o _ _ hc e _=>⟨o.slots,k b o (fun z=>hc (by simp [z])) e⟩) (fun _ _ _ _ n=>n)
  (fun b o hc e=>⟨o,k b o (fun z=>hc (by simp [z])) e⟩) (fun _ _ e=>e) (fun _ _ _ e=>e) (fun b ps e=>⟨#[],by rw [e]; simp⟩) (fun m hm=>?_) (fun b u e=>?_) I.bare
 ·have e:b=it:=by simpa using hb
  subst e
  exact ⟨h1,hL,h2,h3⟩
 ·obtain ⟨o,es,ep,ho,r⟩:=hm
  exact ⟨o,es,ep,k _ o (Ne.symm hL) ho,r⟩
 ·refine (I.hok b u e).stay (fun c v hc q=>k c v ?_ q) (fun _ q=>q) fun _ _ q=>q
  rcases hc with z | z
  ·rw [z]; exact nit b u e
  ·exact nit c _ z
theorem Inv.tok (I:Inv X pins σ H s) (t:Nat):Inv X pins σ H { s with toks:=t }:=I.un (h':=s.heap) (t':=t) Un.refl I.hok
theorem Inv.kept {t':Nat} (I:Inv X pins σ H s) (k:∀ b u,s.heap.get? b=some u->h'.get? b=some u):Inv X pins σ H { s with heap:=h',toks:=t' }:=I.un (Un.kept k) (I.hok.kept k)
theorem Inv.laid {a:Addr} {o:HO} {t':Nat} (I:Inv X pins σ H s) (k:∀ b u,s.heap.get? b=some u->h'.get? b=some u) (hp:s.heap.objs.size<=a) (new:ObjOk X.prog X.w (upd H a o) h' a o) :
  Inv X pins σ (upd H a o) { s with heap:=h',toks:=t' }:=I.un (Un.laid k hp (I.hok.fresh hp)) (I.hok.laid k hp new)
theorem Inv.write {x e:Addr} {o:HO} {t':Nat} (I:Inv X pins σ H s) (mu:Mut (H x)) (he:e=x\/H e=some (.own x)) (k:∀ b u,b ≠ e->s.heap.get? b=some u->h'.get? b=some u) (heo:∃ u,h'.get? e=some u)
  (new:ObjOk X.prog X.w (upd H x o) h' x o):Inv X pins σ (upd H x o) { s with heap:=h',toks:=t' }:=I.un (Un.write mu he k heo) (I.hok.write mu he k heo new)
theorem Inv.pins_of {pins':List (Addr × Obj)} (I:Inv X pins σ H s) (h:∀ p ∈ pins',s.heap.get? p.1=some p.2/\H p.1=none/\p.1 ≠ X.env.locals/\p.1 ∉ X.fs/\∀ v,p.2.data ≠ .cell v):Inv X pins' σ H s:=
 ⟨I.ok,I.os,I.bare,I.base,I.loc,I.cell,I.free,I.freeC,fun p hp=>(List.mem_append.mp hp).elim (fun z=>I.pin p (List.mem_append_left _ z)) (h p),I.hok,I.len⟩
theorem nodup_ix {N:List Str} (hN:N.Nodup) {i j:Nat} {x:Str} (a:N[i]? = some x) (b:N[j]? = some x):i=j:=by
 obtain ⟨h1,e1⟩:=List.getElem?_eq_some_iff.mp a
 obtain ⟨h2,e2⟩:=List.getElem?_eq_some_iff.mp b
 exact (List.getElem_inj hN).mp (e1.trans e2.symm)
theorem store_ok2 {M:Model} {A:Around} {E:Value->Shared->Prop} {i:Nat} {x:Str} {v:V} {u:Value} {Q:Unit->Shared->Prop} (I:Inv X pins σ H s) (hN:X.N.Nodup) (hi:X.N[i]? = some x) (hx:Loc X.env.scope x) (r:RelV v u)
  (h:∀ s',Inv X pins (σ.set i (some v)) H s'->(∃ a,Heap.SameBut a s.heap s'.heap/\(a=X.env.locals\/X.env.cells.lookup x=some a))->Q () s') (hf:X.fn x=true\/X.env.scope.names.lookup x=some .local:=by first | exact .inl rfl | exact .inr rfl | assumption):wpAny M A (storeName X.env x u) Q E s:=by
 obtain ⟨m,hn,hl⟩:=id I.loc
 have hcls:(X.env.scope.kind == .class || (X.env.scope.kind == .module && X.env.locals != X.env.globals))=false:=by rw [I.ok.kind]; rfl
 have hiσ:i < σ.length:=by rw [I.len]; exact (List.getElem?_eq_some_iff.mp hi).1
 have cne:=I.cne
 have tracked:∀ {a:Addr} {h':Heap},(∃ o,s.heap.get? a=some o/\H a=none)->Heap.SameBut a s.heap h'->HOk X.prog X.w H h':=fun {a h'} ha hs b ob e=>by
  obtain ⟨_,_,hfree⟩:=ha
  refine (I.hok b ob e).stay (fun c w' hc q=>(hs.2 c ?_).trans q) (fun _ q=>q) fun _ _ q=>q
  rintro rfl
  rcases hc with rfl | hc
  ·rw [hfree] at e; cases e
  ·rw [hfree] at hc; cases hc
 rcases hx with hk | hk
 ·refine wpAny_storeName_local hk hn (fun h' hn' hs=>?_) hcls
  obtain ⟨oL,_,_,hoL,_⟩:=id hn
  refine h _ ⟨I.ok,I.os,I.bare,⟨fun b o e n hb hx=>?_,fun b o e n hb hx=>?_,I.base.free,fun b o e hx=>?_,I.base.tups,I.base.frzs,I.base.tbls⟩,⟨_,hn',fun j y v' e1 e2 e3=>?_⟩,fun y c e=>?_,I.free,I.freeC,fun p hp=>?_,tracked ⟨oL,hoL,I.free⟩ hs,by simpa using I.len⟩ ⟨_,hs,.inl rfl⟩
  ·exact (hs.2 b (Nat.ne_of_lt (Nat.lt_of_lt_of_le (Heap.lt_size e) I.ok.above))).trans (I.base.keep b o e n hb hx)
  ·obtain ⟨sl,e1⟩:=I.base.slot b o e n hb hx
   exact ⟨sl,(hs.2 b (Nat.ne_of_lt (Nat.lt_of_lt_of_le (Heap.lt_size e) I.ok.above))).trans e1⟩
  ·obtain ⟨o',e1⟩:=I.base.there b o e hx
   exact ⟨o',(hs.2 b (Nat.ne_of_lt (Nat.lt_of_lt_of_le (Heap.lt_size e) I.ok.above))).trans e1⟩
  ·by_cases hj:j=i
   ·subst hj
    rw [hi] at e1; cases e1
    rw [List.getElem?_set_self hiσ] at e2
    cases e2
    exact ⟨u,r,.inl ⟨hk,by simp⟩⟩
   ·rw [List.getElem?_set_ne (Ne.symm hj)] at e2
    obtain ⟨u',r',q⟩:=hl j y v' e1 e2 e3
    refine ⟨u',r',?_⟩
    rcases q with ⟨k,e⟩ | ⟨k,c,e,z⟩
    ·refine .inl ⟨k,?_⟩
     have:y ≠ x:=fun e=>hj (nodup_ix hN e1 (e ▸ hi))
     simp [this,e]
    ·exact .inr ⟨k,c,e,z.sameBut hs (cne y c e)⟩
  ·obtain ⟨w',z⟩:=I.cell y c e
   exact ⟨w',z.sameBut hs (cne y c e)⟩
  ·obtain ⟨e,n,ne,nf,d⟩:=I.pin p hp
   exact ⟨(hs.2 p.1 ne).trans e,n,ne,nf,d⟩
 ·have hfn:X.fn x=true:=by
   rcases hf with z | z
   ·exact z
   ·rw [z] at hk; cases hk
  obtain ⟨c,hc⟩:=I.ok.has x (.inl hk)
  obtain ⟨w',z⟩:=I.cell x c hc
  refine wpAny_storeName_cell I.ok.kind hk hc z (fun h' hc' hs=>?_)
  obtain ⟨oc,hoc,hocd⟩:=id z
  refine h { s with heap:=h' } ⟨I.ok,I.os,I.bare,⟨fun b o e n hb hx=>?_,fun b o e n hb hx=>?_,I.base.free,fun b o e hx=>?_,I.base.tups,I.base.frzs,I.base.tbls⟩,⟨m,hn.sameBut hs (Ne.symm (cne x c hc)),fun j y v' e1 e2 e3=>?_⟩,fun y c' e=>?_,I.free,I.freeC,fun p hp=>?_,tracked ⟨oc,hoc,I.freeC x c hc⟩ hs,by simpa using I.len⟩ ⟨c,hs,.inr hc⟩
  ·exact (hs.2 b (Nat.ne_of_lt (Nat.lt_of_lt_of_le (Heap.lt_size e) (I.ok.cab x c hfn hc)))).trans (I.base.keep b o e n hb hx)
  ·obtain ⟨sl,e1⟩:=I.base.slot b o e n hb hx
   exact ⟨sl,(hs.2 b (Nat.ne_of_lt (Nat.lt_of_lt_of_le (Heap.lt_size e) (I.ok.cab x c hfn hc)))).trans e1⟩
  ·obtain ⟨o',e1⟩:=I.base.there b o e hx
   exact ⟨o',(hs.2 b (Nat.ne_of_lt (Nat.lt_of_lt_of_le (Heap.lt_size e) (I.ok.cab x c hfn hc)))).trans e1⟩
  ·by_cases hj:j=i
   ·subst hj
    rw [hi] at e1; cases e1
    rw [List.getElem?_set_self hiσ] at e2
    cases e2
    exact ⟨u,r,.inr ⟨.inl hk,c,hc,hc'⟩⟩
   ·rw [List.getElem?_set_ne (Ne.symm hj)] at e2
    obtain ⟨u',r',q⟩:=hl j y v' e1 e2 e3
    refine ⟨u',r',?_⟩
    rcases q with q | ⟨k,c',e,z'⟩
    ·exact .inl q
    ·refine .inr ⟨k,c',e,z'.sameBut hs ?_⟩
     rintro rfl
     exact hj (nodup_ix hN e1 (I.ok.inj _ _ _ e hc ▸ hi))
  ·by_cases hcc:c'=c
   ·subst hcc; exact ⟨_,hc'⟩
   ·obtain ⟨w2,z2⟩:=I.cell y c' e
    exact ⟨w2,z2.sameBut hs hcc⟩
  ·obtain ⟨e,n,ne,nf,d⟩:=I.pin p hp
   refine ⟨(hs.2 p.1 ?_).trans e,n,ne,nf,d⟩
   intro q
   rw [q,hoc] at e
   have q':oc=p.2:=Option.some.inj e
   exact d w' (by rw [<-q']; exact hocd)
theorem store_ok {M:Model} {A:Around} {E:Value->Shared->Prop} {i:Nat} {x:Str} {v:V} {u:Value} {Q:Unit->Shared->Prop} (I:Inv X pins σ H s) (hN:X.N.Nodup) (hi:X.N[i]? = some x) (hx:Loc X.env.scope x) (r:RelV v u)
  (h:∀ s',Inv X pins (σ.set i (some v)) H s'->Q () s') (hf:X.fn x=true\/X.env.scope.names.lookup x=some .local:=by first | exact .inl rfl | exact .inr rfl | assumption):wpAny M A (storeName X.env x u) Q E s:=
 store_ok2 I hN hi hx r (fun s' I' _=>h s' I') hf
theorem Inv.call' {s':Shared} {ch:List Addr} (I:Inv X pins σ H s) (ho:s'.os=s.os) (u:Un (frs X.stack) ch H H' s.heap s'.heap) (hok:HOk X.prog X.w H' s'.heap) (hg:AllBare s'.gens)
  (hch:∀ b ∈ ch,(b ∈ X.ex\/X.s₀.heap.objs.size<=b)/\b ≠ X.env.locals/\(∀ x c,X.env.cells.lookup x=some c->c ≠ b)/\∀ p ∈ X.pn ++ pins,p.1 ≠ b):Inv X pins σ H' s':=by
 obtain ⟨h',g',d',t',o'⟩:=s'
 have e:o'=s.os:=ho
 subst e
 exact I.call (g':=g') (t':=t') (d':=d') u hok hg hch
end
abbrev XK:=Value->Option Addr->Hp->Prop
abbrev St:=List (Option V)
abbrev VK:=V->Hp->Prop
abbrev TE:=St->Hp->VK->Prop
abbrev TT:=St->Hp->(Bool->Hp->Prop)->Prop
abbrev TA:=St->Hp->(List V->Hp->Prop)->Prop
structure Ends where
 nx:St->Hp->Prop
 rt:VK
 bk:St->Hp->Prop:=fun _ _=>False
 ct:St->Hp->Prop:=fun _ _=>False
abbrev TS:=Ends->St->Hp->Prop
def EP (X:Cx) (pins:List (Addr × Obj)) (σ:St) (Q:VK) (u:Value) (s':Shared):Prop:=∃ v H',Inv X pins σ H' s'/\RelV v u/\Q v H'
def TP (X:Cx) (pins:List (Addr × Obj)) (σ:St) (Q:Bool->Hp->Prop) (b:Bool) (s':Shared):Prop:=∃ H',Inv X pins σ H' s'/\Q b H'
def AP (X:Cx) (pins:List (Addr × Obj)) (σ:St) (Q:List V->Hp->Prop) (us:List Value) (s':Shared):Prop:=∃ vs H',Inv X pins σ H' s'/\Vals vs us/\Q vs H'
def SP (X:Cx) (pins:List (Addr × Obj)) (D:Ends) (f:Flow) (s':Shared):Prop:=
 match f with
 | .next=>∃ σ' H',Inv X pins σ' H' s'/\D.nx σ' H'
 | .brk=>∃ σ' H',Inv X pins σ' H' s'/\D.bk σ' H'
 | .cont=>∃ σ' H',Inv X pins σ' H' s'/\D.ct σ' H'
 | .ret u=>∃ v σ' H',Inv X pins σ' H' s'/\RelV v u/\D.rt v H'
def PE (X:Cx) (e:Expr) (t:TE):Prop:=
 ∀ (pins:List (Addr × Obj)) (s:Shared) (σ:St) (H:Hp) (Q:VK),Inv X pins σ H s->t σ H Q->wpAny (model X.prog X.w) X.A (eval e X.env) (EP X pins σ Q) X.xe s
def PT (X:Cx) (e:Expr) (t:TT):Prop:=
 ∀ (pins:List (Addr × Obj)) (s:Shared) (σ:St) (H:Hp) (Q:Bool->Hp->Prop),Inv X pins σ H s->t σ H Q->wpAny (model X.prog X.w) X.A (isTrue e X.env (eval e X.env)) (TP X pins σ Q) X.xe s
def PW (X:Cx) (e:Expr) (t:TT):Prop:=
 ∀ (whole:Sem Value) (pins:List (Addr × Obj)) (s:Shared) (σ:St) (H:Hp) (Q:Bool->Hp->Prop),Inv X pins σ H s->t σ H Q->wpAny (model X.prog X.w) X.A (isTrue e X.env whole) (TP X pins σ Q) X.xe s
theorem PW.pt {X:Cx} {e:Expr} {t:TT} (h:PW X e t):PT X e t:=h _
def PA (X:Cx) (es:List Expr) (t:TA):Prop:=
 ∀ (pos:Pos) (pins:List (Addr × Obj)) (s:Shared) (σ:St) (H:Hp) (Q:List V->Hp->Prop),Inv X pins σ H s->t σ H Q->wpAny (model X.prog X.w) X.A (spliced (backTo pos (starEach es X.env))) (AP X pins σ Q) X.xe s
def PS (X:Cx) (st:Stmt) (t:TS):Prop:=
 ∀ (pins:List (Addr × Obj)) (s:Shared) (σ:St) (H:Hp) (D:Ends),Inv X pins σ H s->t D σ H->wpAny (model X.prog X.w) X.A (exec st X.env) (SP X pins D) X.xe s
def PSs (X:Cx) (st:List Stmt) (t:TS):Prop:=
 ∀ (pins:List (Addr × Obj)) (s:Shared) (σ:St) (H:Hp) (D:Ends),Inv X pins σ H s->t D σ H->wpAny (model X.prog X.w) X.A (execs st X.env) (SP X pins D) X.xe s
theorem thn {α:Type} {t:Sem α} {Q Q':α->Shared->Prop} {M:Model} {A:Around} {E:Value->Shared->Prop} {s:Shared} (h:wpAny M A t Q E s) (hQ:∀ a s,Q a s->Q' a s):wpAny M A t Q' E s:=wpAny_mono h hQ fun _ _ x=>x
section
variable {X:Cx}
def tVar (i:Nat):TE:=fun σ H Q=>∃ v,σ[i]? = some (some v)/\Q v H
def tC (v:V):TE:=fun _ H Q=>Q v H
theorem pe_var {i:Nat} {x:Str} {pos:Pos} (hN:X.N[i]? = some x) (hv:Vis X.env.scope x) (hd:(x == ("__debug__":Str))=false:=by decide) (hcd:(x == ("__classdict__":Str))=false:=by decide):PE X (.Name x pos) (tVar i):=by
 intro pins s σ H Q I h
 obtain ⟨v,e,h⟩:=h
 obtain ⟨m,hn,hl⟩:=I.loc
 obtain ⟨u,r,l⟩:=hl i x v hN e hv
 have fin:EP X pins σ Q u s:=⟨v,H,I,r,h⟩
 rcases l with ⟨hk,hm⟩ | ⟨hk,c,hc,hcell⟩
 ·exact wpAny_Name (wpAny_loadName_local I.ok.kind hk hn hm fin) hd
 ·rcases hk with hk | hk
  ·exact wpAny_Name (wpAny_loadName_cell I.ok.kind hk hc hcell fin) hd
  ·exact wpAny_Name (wpAny_loadName_free I.ok.kind hk hc hcell fin hcd) hd
theorem pe_int {i j pos}:PE X (.Constant (.int i) j pos) (tC (.int i)):=fun _ _ _ H _ I h=>wpAny_Constant_int ⟨.int i,H,I.tok _,⟨_,rfl⟩,h⟩
theorem pe_bl {b j pos}:PE X (.Constant (.bool b) j pos) (tC (.bl b)):=fun _ _ _ H _ I h=>Constant_bool ⟨.bl b,H,I,rfl,h⟩
theorem pe_non {j pos}:PE X (.Constant .none j pos) (tC .non):=fun _ _ _ H _ I h=>Constant_none ⟨.non,H,I,rfl,h⟩
theorem pe_str {x j pos}:PE X (.Constant (.str x) j pos) (tC (.str x)):=fun _ _ _ H _ I h=>Calls.Constant_str ⟨.str x,H,I.tok _,⟨_,rfl⟩,h⟩
def Gl (X:Cx) (x:Str):Prop:=X.env.kindOf x=some .globalImplicit
theorem ld_glob {E:Value->Shared->Prop} {pins:List (Addr × Obj)} {s:Shared} {σ:St} {H:Hp} {x:Str} {u:Value} {pos:Pos} {Q:Value->Shared->Prop} (I:Inv X pins σ H s) (hg:Gl X x) (hm:X.mg x=some u) (h:Q u s)
  (hd:(x == ("__debug__":Str))=false:=by decide):wpAny (model X.prog X.w) X.A (eval (.Name x pos) X.env) Q E s:=
 Calls.Name_function_global I.ok.kind hg (Calls.loadGlobal_global (by rw [I.ok.glob]; exact I.mod.glob.keeps I.bk) hm h) hd
theorem ld_blt {E:Value->Shared->Prop} {pins:List (Addr × Obj)} {s:Shared} {σ:St} {H:Hp} {x:Str} {u:Value} {pos:Pos} {Q:Value->Shared->Prop} (I:Inv X pins σ H s) (hg:Gl X x) (hm:X.mg x=none) (hv:bootBuiltins x=some u) (h:Q u s)
  (hn:x ≠ "__name__":=by decide) (hd:(x == ("__debug__":Str))=false:=by decide):wpAny (model X.prog X.w) X.A (eval (.Name x pos) X.env) Q E s:=by
 obtain ⟨mb,h1,h2⟩:=I.mod.blt
 exact Calls.Name_function_global I.ok.kind hg (Calls.loadGlobal_builtin (by rw [I.ok.glob]; exact I.mod.glob.keeps I.bk) hm (by rw [I.ok.blt]; exact h1.keeps I.bk) ((h2 x hn).trans hv) h) hd
theorem pe_glob {x:Str} {v:V} {u:Value} {pos:Pos} (hg:Gl X x) (hm:X.mg x=some u) (r:RelV v u) (hd:(x == ("__debug__":Str))=false:=by decide):PE X (.Name x pos) (tC v):=
 fun _ _ _ H _ I h=>ld_glob I hg hm ⟨v,H,I,r,h⟩ hd
theorem pe_bltn {x:Str} {v:V} {u:Value} {pos:Pos} (hg:Gl X x) (hm:X.mg x=none) (hv:bootBuiltins x=some u) (r:RelV v u) (hn:x ≠ "__name__":=by decide) (hd:(x == ("__debug__":Str))=false:=by decide):PE X (.Name x pos) (tC v):=
 fun _ _ _ H _ I h=>ld_blt I hg hm hv ⟨v,H,I,r,h⟩ hn hd
variable {a b:Expr} {ta tb:TE} {pos:Pos}
def PC (X:Cx) (op:CmpOp) (a b:Expr) (t:TE):Prop:=
 ∀ (pins:List (Addr × Obj)) (s:Shared) (σ:St) (H:Hp) (Q:VK),Inv X pins σ H s->t σ H Q ->
  wpAny (model X.prog X.w) X.A (eval a X.env) (fun v s₁=>wpAny (model X.prog X.w) X.A (eval b X.env) (fun u s₂=>wpAny (model X.prog X.w) X.A (compareOp op v u) (EP X pins σ Q) X.xe s₂) X.xe s₁) X.xe s
theorem nobehind (b:Expr) {op:CmpOp} (h:op ≠ .In) (h2:op ≠ .NotIn):behindInMarks op b=false:=by
 have e1:(op == CmpOp.In)=false:=by cases op <;> first | rfl | exact absurd rfl h
 have e2:(op == CmpOp.NotIn)=false:=by cases op <;> first | rfl | exact absurd rfl h2
 cases b <;> simp [behindInMarks,e1,e2]
def tIsN (ta:TE):TE:=fun σ H Q=>ta σ H fun x H1=>Q (.bl (decide (x=.non))) H1
def tNotN (ta:TE):TE:=fun σ H Q=>ta σ H fun x H1=>Q (.bl (!decide (x=.non))) H1
theorem RelV.none_iff {x:V} {v:Value} (r:RelV x v):(v == Value.none)=decide (x=.non):=by
 cases x with
 | non=>cases r; rfl
 | bl _=>cases r; rfl
 | int _=>obtain ⟨t,rfl⟩:=r; rfl
 | str _=>obtain ⟨t,rfl⟩:=r; rfl
 | byt _=>obtain ⟨t,rfl⟩:=r; rfl
 | flt _=>obtain ⟨t,rfl⟩:=r; rfl
 | ref _=>cases r; rfl
 | ty _=>cases r; rfl
theorem pc_isN {j pos'} (ha:PE X a ta):PC X .Is a (.Constant .none j pos') (tIsN ta):=by
 intro pins s σ H Q I h
 refine thn (ha pins s σ H _ I h) fun v s1 ⟨x,H1,I1,r1,q1⟩=>?_
 exact Constant_none (is_none_gen ⟨.bl _,H1,I1,by rw [r1.none_iff]; rfl,q1⟩)
theorem pc_notN {j pos'} (ha:PE X a ta):PC X .IsNot a (.Constant .none j pos') (tNotN ta):=by
 intro pins s σ H Q I h
 refine thn (ha pins s σ H _ I h) fun v s1 ⟨x,H1,I1,r1,q1⟩=>?_
 exact Constant_none (isnot_none_gen ⟨.bl _,H1,I1,by rw [r1.none_iff]; rfl,q1⟩)
def tB (t:TE):TT:=fun σ H Q=>t σ H fun x H1=>∃ c,x=.bl c/\Q c H1
theorem pe_cmp {op:CmpOp} {t:TE} (h:PC X op a b t) (h1:behindInMarks op b=false:=by first | exact nobehind _ (by decide) (by decide) | rfl):PE X (.Compare a [op] [b] pos) t:=fun pins s σ H Q I hw=>wpAny_Compare1 (h pins s σ H Q I hw) h1
theorem pt_cmp {op:CmpOp} {t:TE} (h:PC X op a b t) (h1:behindInMarks op b=false:=by first | exact nobehind _ (by decide) (by decide) | rfl):PT X (.Compare a [op] [b] pos) (tB t):=by
 intro pins s σ H Q I hw
 refine wpAny_isTrue_Compare1 (thn (h pins s σ H _ I hw) fun v s1 h1=>thn h1 fun u s2 h2=>thn h2 fun c s3 ⟨x,H1,I1,r1,q1⟩=>?_) h1
 obtain ⟨d,rfl,q⟩:=q1
 cases r1
 exact wpAny_truthy_bool ⟨H1,I1,q⟩
theorem pt_val {e:Expr} {t:TE} (h:PE X e t) (he:∀ whole,isTrue e X.env whole=(do let v <- whole; standAt e.pos; holding [v] (truthy v)):=by intro _; rfl):PT X e (tB t):=by
 intro pins s σ H Q I hw
 refine isTrue_plain (thn (h pins s σ H _ I hw) fun v s1 ⟨x,H1,I1,r1,q1⟩=>?_) (he _)
 obtain ⟨d,rfl,q⟩:=q1
 cases r1
 exact wpAny_truthy_bool ⟨H1,I1,q⟩
variable {tA tB':TT} {rest:List Expr}
def tAnd (t u:TT):TT:=fun σ H Q=>t σ H fun c H1=>if c=true then u σ H1 Q else Q false H1
def tOr (t u:TT):TT:=fun σ H Q=>t σ H fun c H1=>if c=true then Q true H1 else u σ H1 Q
def tNot (t:TT):TT:=fun σ H Q=>t σ H fun c H1=>Q (!c) H1
theorem pw_and1 (ha:PT X a tA):PW X (.BoolOp .And [a] pos) tA:=by
 intro wh pins s σ H Q I h
 refine isTrue_and (thn (ha pins s σ H Q I h) fun c s1 e=>?_)
 cases c with
 | true=>exact isTrue_and_nil e
 | false=>exact e
theorem pw_or1 (ha:PT X a tA):PW X (.BoolOp .Or [a] pos) tA:=by
 intro wh pins s σ H Q I h
 refine isTrue_or (thn (ha pins s σ H Q I h) fun c s1 e=>?_)
 cases c with
 | false=>exact isTrue_or_nil e
 | true=>exact e
theorem pw_and (ha:PT X a tA) (hb:PW X (.BoolOp .And (b :: rest) pos) tB'):PW X (.BoolOp .And (a :: b :: rest) pos) (tAnd tA tB'):=by
 intro wh pins s σ H Q I h
 refine isTrue_and (thn (ha pins s σ H _ I h) fun c s1 ⟨H1,I1,q1⟩=>?_)
 cases c with
 | true=>exact hb wh pins s1 σ H1 Q I1 q1
 | false=>exact ⟨H1,I1,q1⟩
theorem pw_or (ha:PT X a tA) (hb:PW X (.BoolOp .Or (b :: rest) pos) tB'):PW X (.BoolOp .Or (a :: b :: rest) pos) (tOr tA tB'):=by
 intro wh pins s σ H Q I h
 refine isTrue_or (thn (ha pins s σ H _ I h) fun c s1 ⟨H1,I1,q1⟩=>?_)
 cases c with
 | true=>exact ⟨H1,I1,q1⟩
 | false=>exact hb wh pins s1 σ H1 Q I1 q1
theorem pt_not (ha:PT X a tA):PT X (.UnaryOp .Not a pos) (tNot tA):=by
 intro pins s σ H Q I h
 exact isTrue_not (ha pins s σ H (fun c H1=>Q (!c) H1) I h)
def tAndV (ta tb:TE):TE:=fun σ H Q=>ta σ H fun x H1=>∃ c,x=.bl c/\if c=true then tb σ H1 Q else Q (.bl false) H1
def tOrV (ta tb:TE):TE:=fun σ H Q=>ta σ H fun x H1=>∃ c,x=.bl c/\if c=true then Q (.bl true) H1 else tb σ H1 Q
def tNotV (ta:TE):TE:=fun σ H Q=>ta σ H fun x H1=>∃ c,x=.bl c/\Q (.bl (!c)) H1
theorem pe_one {op} {t:TE} (h:PE X a t):PE X (.BoolOp op [a] pos) t:=fun pins s σ H Q I hw=>BoolOp_one (h pins s σ H Q I hw)
theorem pe_and (ha:PE X a ta) (hb:PE X (.BoolOp .And (b :: rest) pos) tb):PE X (.BoolOp .And (a :: b :: rest) pos) (tAndV ta tb):=by
 intro pins s σ H Q I h
 refine BoolOp_and (thn (ha pins s σ H _ I h) fun v s1 ⟨x,H1,I1,r1,q1⟩=>?_)
 obtain ⟨c,rfl,q1⟩:=q1
 cases r1
 refine wpAny_truthy_bool ?_
 cases c with
 | true=>exact hb pins s1 σ H1 Q I1 q1
 | false=>exact ⟨.bl false,H1,I1,rfl,q1⟩
theorem pe_or (ha:PE X a ta) (hb:PE X (.BoolOp .Or (b :: rest) pos) tb):PE X (.BoolOp .Or (a :: b :: rest) pos) (tOrV ta tb):=by
 intro pins s σ H Q I h
 refine BoolOp_or (thn (ha pins s σ H _ I h) fun v s1 ⟨x,H1,I1,r1,q1⟩=>?_)
 obtain ⟨c,rfl,q1⟩:=q1
 cases r1
 refine wpAny_truthy_bool ?_
 cases c with
 | false=>exact hb pins s1 σ H1 Q I1 q1
 | true=>exact ⟨.bl true,H1,I1,rfl,q1⟩
theorem pe_not (ha:PE X a ta):PE X (.UnaryOp .Not a pos) (tNotV ta):=by
 intro pins s σ H Q I h
 refine UnaryOp_ (thn (ha pins s σ H _ I h) fun v s1 ⟨x,H1,I1,r1,q1⟩=>?_)
 obtain ⟨c,rfl,q1⟩:=q1
 cases r1
 exact not_of (wpAny_truthy_bool ⟨.bl (!c),H1,I1,rfl,q1⟩)
end
def SqL (K:PySem.W.Frag) (H:Hp) (a:Addr) (xs:List V):Prop:=
 Rd H a (.lst xs) \/
  ∃ (o:Obj) (its:Array Value) (n:Nat),K.lookup a=some o/\o.cls=.type "list"/\o.dict=none/\o.data=.seq its n/\its.size<=sizeLine/\Vals xs its.toList
def SqT (K:PySem.W.Frag) (H:Hp) (a:Addr) (xs:List V):Prop:=
 Rd H a (.tup xs) \/
  ∃ (o:Obj) (its:Array Value) (n:Nat),K.lookup a=some o/\o.cls=.type "tuple"/\o.data=.seq its n/\its.size<=sizeLine/\Vals xs its.toList
def absV:Value->Option V
 | .none=>some .non
 | .bool b=>some (.bl b)
 | .int i _=>some (.int i)
 | .str x _=>some (.str x)
 | .bytes b _=>some (.byt b)
 | .float b _=>some (.flt b)
 | .ref a=>some (.ref a)
 | .type n=>some (.ty n)
 | _=>none
theorem RelV.abs {x:V} {u:Value} (r:RelV x u):absV u=some x:=by
 cases x with
 | non=>cases r; rfl
 | bl _=>cases r; rfl
 | int _=>obtain ⟨t,rfl⟩:=r; rfl
 | str _=>obtain ⟨t,rfl⟩:=r; rfl
 | byt _=>obtain ⟨t,rfl⟩:=r; rfl
 | flt _=>obtain ⟨t,rfl⟩:=r; rfl
 | ref _=>cases r; rfl
 | ty _=>cases r; rfl
theorem RelV.inj {x y:V} {u:Value} (r:RelV x u) (q:RelV y u):x=y:=Option.some.inj (r.abs.symm.trans q.abs)
theorem Vals.inj:∀ {xs ys:List V} {us:List Value},Vals xs us->Vals ys us->xs=ys
 | _,_,_,.nil,.nil=>rfl
 | _,_,_,.cons r t,.cons r' t'=>by rw [r.inj r',Vals.inj t t']
section
variable {X:Cx} {pins:List (Addr × Obj)} {σ:St} {H:Hp} {s:Shared} {a:Addr} {xs ys:List V}
theorem SqL.of {K:PySem.W.Frag} (h:H a=some (.lst xs)):SqL K H a xs:=.inl (.inl h)
theorem SqT.of {K:PySem.W.Frag} (h:H a=some (.tup xs)):SqT K H a xs:=.inl (.inl h)
theorem Inv.list (I:Inv X pins σ H s) (h:SqL X.K H a xs):∃ its:List Value,Vals xs its/\PlainL s.heap a its.toArray/\xs.length<=sizeLine:=by
 rcases h with h | ⟨o,its,n,hk,hc,hd,hs,hz,r⟩
 ·obtain ⟨z,its,n,r,e⟩:=h.ok I.hok
  exact ⟨its,r,⟨_,n,e,rfl,rfl,rfl⟩,z⟩
 ·refine ⟨its.toList,r,⟨o,n,I.kIn a o hk,hc,hd,by simpa using hs⟩,?_⟩
  have e:=r.length
  simp only [Array.length_toList] at e
  (first|lia|omega)
theorem Inv.tuple (I:Inv X pins σ H s) (h:SqT X.K H a xs):∃ its:List Value,Vals xs its/\IsTup s.heap a its.toArray/\xs.length<=sizeLine:=by
 rcases h with h | ⟨o,its,n,hk,hc,hs,hz,r⟩
 ·obtain ⟨z,its,r,p,_⟩:=h.ok I.hok
  exact ⟨its,r,p,z⟩
 ·refine ⟨its.toList,r,⟨o,I.kIn a o hk,hc,n,by simpa using hs⟩,?_⟩
  have e:=r.length
  simp only [Array.length_toList] at e
  (first|lia|omega)
theorem Inv.list_inj (I:Inv X pins σ H s) (h:SqL X.K H a xs) (h':SqL X.K H a ys):xs=ys:=by
 obtain ⟨its,r,⟨o,n,e,_,_,d⟩,_⟩:=I.list h
 obtain ⟨its',r',⟨o',n',e',_,_,d'⟩,_⟩:=I.list h'
 rw [e] at e'; cases e'
 rw [d] at d'
 injection d' with d1 _
 have:its=its':=by simpa using congrArg Array.toList d1
 subst this
 exact r.inj r'
theorem Inv.tuple_inj (I:Inv X pins σ H s) (h:SqT X.K H a xs) (h':SqT X.K H a ys):xs=ys:=by
 obtain ⟨its,r,⟨o,e,_,n,d⟩,_⟩:=I.tuple h
 obtain ⟨its',r',⟨o',e',_,n',d'⟩,_⟩:=I.tuple h'
 rw [e] at e'; cases e'
 rw [d] at d'
 injection d' with d1 _
 have:its=its':=by simpa using congrArg Array.toList d1
 subst this
 exact r.inj r'
end
abbrev Cx.wish (X:Cx) (E:Value->Shared->Prop):Cx:={ X with xe:=E }
abbrev Cx.nox (X:Cx):Cx:=X.wish fun _ _=>False
theorem Cx.Ok.wish {X:Cx} (ok:X.Ok) (E:Value->Shared->Prop):(X.wish E).Ok:=
 ⟨ok.mod,ok.kind,ok.glob,ok.blt,ok.above,ok.inj,ok.has,ok.cab,ok.hd,ok.frames,ok.stk,ok.exf,ok.bs,ok.bsz,ok.noex,ok.exfs,ok.funs,ok.frf⟩
theorem Cx.Ok.unwish {X:Cx} {E:Value->Shared->Prop} (ok:(X.wish E).Ok):X.Ok:=
 ⟨ok.mod,ok.kind,ok.glob,ok.blt,ok.above,ok.inj,ok.has,ok.cab,ok.hd,ok.frames,ok.stk,ok.exf,ok.bs,ok.bsz,ok.noex,ok.exfs,ok.funs,ok.frf⟩
section
variable {X:Cx} {pins:List (Addr × Obj)} {σ:St} {H:Hp} {s:Shared} {E:Value->Shared->Prop}
theorem Inv.wish (I:Inv X pins σ H s) (E:Value->Shared->Prop):Inv (X.wish E) pins σ H s:=⟨I.ok.wish E,I.os,I.bare,I.base,I.loc,I.cell,I.free,I.freeC,I.pin,I.hok,I.len⟩
theorem Inv.unwish (I:Inv (X.wish E) pins σ H s):Inv X pins σ H s:=⟨I.ok.unwish,I.os,I.bare,I.base,I.loc,I.cell,I.free,I.freeC,I.pin,I.hok,I.len⟩
theorem SP.unwish {D:Ends} {f:Flow} {s':Shared} (h:SP (X.wish E) pins D f s'):SP X pins D f s':=by
 cases f with
 | next=>obtain ⟨σ',H',I,q⟩:=h; exact ⟨σ',H',I.unwish,q⟩
 | brk=>obtain ⟨σ',H',I,q⟩:=h; exact ⟨σ',H',I.unwish,q⟩
 | cont=>obtain ⟨σ',H',I,q⟩:=h; exact ⟨σ',H',I.unwish,q⟩
 | ret u=>obtain ⟨v,σ',H',I,r,q⟩:=h; exact ⟨v,σ',H',I.unwish,r,q⟩
theorem PSs.nox {st:List Stmt} {t:TS} (h:PSs X.nox st t):PSs X st t:=fun pins s σ H D I hw=>
 wpAny_mono (h pins s σ H D (I.wish _) hw) (fun _ _ q=>q.unwish) fun _ _ z=>False.elim z
end
section
variable {X:Cx} {st:Stmt} {rest:List Stmt} {t u:TS} {e:Expr} {te:TE} {pos:Pos}
def tNext:TS:=fun D σ H=>D.nx σ H
def tSeq (t u:TS):TS:=fun D σ H=>t { D with nx:=u D } σ H
theorem pss_nil:PSs X [] tNext:=fun _ _ σ H _ I h=>wpAny_execs_nil ⟨σ,H,I,h⟩
theorem pss_cons (h1:PS X st t) (h2:PSs X rest u):PSs X (st :: rest) (tSeq t u):=by
 intro pins s σ H D I h
 refine wpAny_execs_cons (thn (h1 pins s σ H { D with nx:=u D } I h) fun f s1 q=>?_)
 cases f with
 | next=>
  obtain ⟨σ',H',I',q⟩:=q
  exact h2 pins s1 σ' H' D I' q
 | ret v=>exact q
 | brk=>exact q
 | cont=>exact q
theorem pss_one (h1:PS X st t):PSs X [st] t:=by
 intro pins s σ H D I h
 refine wpAny_execs_cons (thn (h1 pins s σ H D I h) fun f s1 q=>?_)
 cases f with
 | next=>exact wpAny_execs_nil q
 | ret v=>exact q
 | brk=>exact q
 | cont=>exact q
theorem Inv.quiet {pins:List (Addr × Obj)} {σ:St} {H:Hp} {s:Shared} (I:Inv X pins σ H s):interactive X.env=false:=by simp [interactive,I.ok.kind]
def tDrop (te:TE):TS:=fun D σ H=>te σ H fun _ H1=>D.nx σ H1
theorem ps_expr (he:PE X e te) (hs:swapsWith e none pos.line X.env=pure false:=by rfl):PS X (.Expr e pos) (tDrop te):=by
 intro pins s σ H D I h
 exact wpAny_Expr_any (thn (he pins s σ H _ I h) fun v s1 ⟨x,H1,I1,r1,q1⟩=>⟨σ,H1,I1,q1⟩) I.quiet hs
def tRet (te:TE):TS:=fun D σ H=>te σ H D.rt
theorem ps_ret (he:PE X e te):PS X (.Return (some e) pos) (tRet te):=by
 intro pins s σ H D I h
 exact wpAny_Return_some (thn (he pins s σ H _ I h) fun v s1 ⟨x,H1,I1,r1,q1⟩=>⟨x,σ,H1,I1,r1,q1⟩)
def tIfS (c:TT) (t u:TS):TS:=fun D σ H=>c σ H fun b H1=>if b=true then t D σ H1 else u D σ H1
theorem ps_if {c:Expr} {a b:List Stmt} {tc:TT} (hc:PT X c tc) (ha:PSs X a t) (hb:PSs X b u):PS X (.If c a b pos) (tIfS tc t u):=by
 intro pins s σ H D I h
 refine wpAny_If (thn (hc pins s σ H _ I h) fun d s1 ⟨H1,I1,q1⟩=>?_)
 cases d with
 | true=>exact ha pins s1 σ H1 D I1 q1
 | false=>exact hb pins s1 σ H1 D I1 q1
end
abbrev TG:=V->St->Hp->(St->Hp->Prop)->Prop
abbrev TGs:=List V->St->Hp->(St->Hp->Prop)->Prop
def PG (X:Cx) (target:Expr) (t:TG):Prop:=
 ∀ (pins:List (Addr × Obj)) (s:Shared) (σ:St) (H:Hp) (v:V) (u:Value) (Q:St->Hp->Prop),Inv X pins σ H s->RelV v u->t v σ H Q ->
  wpAny (model X.prog X.w) X.A (assign target X.env u) (fun _ s'=>∃ σ' H',Inv X pins σ' H' s'/\Q σ' H') X.xe s
def PGs (X:Cx) (ts:List Expr) (t:TGs):Prop:=
 ∀ (pins:List (Addr × Obj)) (s:Shared) (σ:St) (H:Hp) (vs:List V) (us:List Value) (Q:St->Hp->Prop),Inv X pins σ H s->Vals vs us->t vs σ H Q ->
  wpAny (model X.prog X.w) X.A (assignInOrder ((assignEach ts X.env).map (·.2)) us) (fun _ s'=>∃ σ' H',Inv X pins σ' H' s'/\Q σ' H') X.xe s
abbrev TSet:=V->V->V->Hp->(Hp->Prop)->Prop
def PSet (X:Cx) (t:TSet):Prop:=
 ∀ (pins:List (Addr × Obj)) (s:Shared) (σ:St) (H:Hp) (o i v:V) (ov iv u:Value) (Q:Hp->Prop),Inv X pins σ H s->RelV o ov->RelV i iv->RelV v u->t o i v H Q ->
  wpAny (model X.prog X.w) X.A (setItem ov iv u) (fun _ s'=>∃ H',Inv X pins σ H' s'/\Q H') X.xe s
section
variable {X:Cx} {pos:Pos}
def gName (i:Nat):TG:=fun v σ H Q=>Q (σ.set i (some v)) H
theorem pg_name {i:Nat} {x:Str} (hN:X.N.Nodup) (hi:X.N[i]? = some x) (hx:Loc X.env.scope x) (hf:X.fn x=true\/X.env.scope.names.lookup x=some .local:=by first | exact .inl rfl | exact .inr rfl | assumption):PG X (.Name x pos) (gName i):=by
 intro pins s σ H v u Q I r h
 exact wpAny_assign_Name (store_ok I hN hi hx r (fun s' I'=>⟨_,H,I',h⟩) hf)
def gNil:TGs:=fun vs σ H Q=>vs=[]/\Q σ H
def gCons (t:TG) (u:TGs):TGs:=fun vs σ H Q=>∃ v r,vs=v :: r/\t v σ H fun σ' H'=>u r σ' H' Q
theorem pgs_nil:PGs X [] gNil:=by
 intro pins s σ H vs us Q I r h
 obtain ⟨e,h⟩:=h
 subst e
 cases r
 exact assignInOrder_nil ⟨σ,H,I,h⟩
theorem pgs_cons {e:Expr} {es:List Expr} {t:TG} {u:TGs} (h1:PG X e t) (h2:PGs X es u)
  (hs:(assignEach (e :: es) X.env).map (·.2)=assign e X.env :: (assignEach es X.env).map (·.2):=by rfl):PGs X (e :: es) (gCons t u):=by
 intro pins s σ H vs us Q I r h
 obtain ⟨v,vr,e1,h⟩:=h
 subst e1
 cases r with
 | cons r rr=>
  rw [hs]
  refine assignInOrder_cons (thn (h1 pins s σ H _ _ _ I r h) fun _ s1 ⟨σ1,H1,I1,q1⟩=>?_)
  exact h2 pins s1 σ1 H1 _ _ Q I1 rr q1
def gTup (K:PySem.W.Frag) (n:Nat) (t:TGs):TG:=fun v σ H Q=>∃ a xs,v=.ref a/\SqT K H a xs/\xs.length=n/\t xs σ H Q
theorem pg_tup {es:List Expr} {k:Nat} {t:TGs} {n:Nat} (hc:X.calm=true) (h:PGs X es t)
  (hn:(assignEach es X.env).length=n:=by rfl) (hst:(assignEach es X.env).findIdx? (·.1)=none:=by rfl):PG X (.Tuple es k pos) (gTup X.K n t):=by
 intro pins s σ H v u Q I r hw
 obtain ⟨a,xs,e1,hq,hl,hw⟩:=hw
 subst e1
 cases r
 obtain ⟨its,rv,ht,hz⟩:=I.tuple hq
 refine assign_Tuple_tuple (I.ok.hd hc) ht (by simp [hn,<-hl,rv.length]) hst fun h' hx=>?_
 have I1:Inv X pins σ H { s with heap:=h' }:=I.kept (t':=s.toks) fun b o e=>hx b o (Nat.ne_of_lt (Heap.lt_size e)) e
 exact h pins _ σ H xs _ Q I1 (by simpa using rv) hw
def gSub (to ti:TE) (t:TSet):TG:=fun v σ H Q=>to σ H fun o H1=>ti σ H1 fun i H2=>t o i v H2 fun H3=>Q σ H3
theorem pg_sub {o i:Expr} {to ti:TE} {t:TSet} (ho:PE X o to) (hi:PE X i ti) (hs:PSet X t)
  (ha:∀ v,assign (.Subscript o i pos) X.env v=(do
   let ov <- holding [v] (eval o X.env)
   let iv <- holding [v,ov] (eval i X.env)
   standAt pos
   holding [v,ov,iv] (setItem ov iv v)
   release [v,ov,iv] []):=by intro _; rfl):PG X (.Subscript o i pos) (gSub to ti t):=by
 intro pins s σ H v u Q I r h
 rw [ha]
 refine wpAny_bind (wpAny_holding (thn (ho pins s σ H _ I h) fun ov s1 ⟨x,H1,I1,r1,q1⟩=>?_))
 refine wpAny_bind (wpAny_holding (thn (hi pins s1 σ H1 _ I1 q1) fun iv s2 ⟨y,H2,I2,r2,q2⟩=>?_))
 refine wpAny_bind (wpAny_standAt (wpAny_bind (wpAny_holding (thn (hs pins s2 σ H2 x y v ov iv u _ I2 r1 r2 r q2) fun _ s3 ⟨H3,I3,q3⟩=>?_))))
 exact wpAny_release ⟨σ,H3,I3,q3⟩
def tAsg (te:TE) (g:TG):TS:=fun D σ H=>te σ H fun x H1=>g x σ H1 D.nx
theorem ps_asg {tg e:Expr} {te:TE} {g:TG} (he:PE X e te) (hg:PG X tg g) (hs:swapsWithSole [tg] e pos.line X.env=pure false:=by rfl) (hw:swappedStores [tg] e X.env=pure none:=by rfl)
  (h1:(assignEach [tg] X.env).map (·.2)=[assign tg X.env]:=by rfl):PS X (.Assign [tg] e pos) (tAsg te g):=by
 intro pins s σ H D I h
 refine wpAny_Assign_stores (thn (he pins s σ H _ I h) fun v s1 ⟨x,H1,I1,r1,q1⟩=>?_) hs hw
 rw [h1]
 exact thn (hg pins s1 σ H1 x v _ I1 r1 q1) fun _ s2 q=>q
theorem ps_set {i:Nat} {x:Str} {e:Expr} {te:TE} {pos':Pos} (hN:X.N.Nodup) (hi:X.N[i]? = some x) (hx:Loc X.env.scope x) (he:PE X e te) (hs:swapsWith e (some (.Name x pos')) pos.line X.env=pure false:=by rfl) (hf:X.fn x=true\/X.env.scope.names.lookup x=some .local:=by first | exact .inl rfl | exact .inr rfl | assumption) :
  PS X (.Assign [.Name x pos'] e pos) (tAsg te (gName i)):=by
 intro pins s σ H D I h
 refine wpAny_Assign_Name (thn (he pins s σ H _ I h) fun v s1 ⟨y,H1,I1,r1,q1⟩=>?_) hs
 exact store_ok I1 hN hi hx r1 (fun s2 I2=>⟨_,H1,I2,q1⟩) hf
end
section
variable {X:Cx} {pos:Pos}
def tWhile (c:TT) (tb:TS):TS:=fun D σ H=>∃ W:Nat->St->Hp->Prop,(∃ m,W m σ H)/\∀ m σ H,W m σ H ->
 c σ H fun b H1=>if b=true then ∃ N:St->Hp->Prop,(∀ σ' H',N σ' H'->∃ m',m' < m/\W m' σ' H')/\tb { D with nx:=N,ct:=N,bk:=D.nx } σ H1 else D.nx σ H1
theorem ps_while {c:Expr} {body:List Stmt} {tc:TT} {tb:TS} (hp:PassesOwn (model X.prog X.w) X.A X.env X.xe) (hc:PT X c tc) (hb:PSs X body tb):PS X (.While c body [] pos) (tWhile tc tb):=by
 intro pins s σ H D I h
 obtain ⟨W,⟨m0,w0⟩,turn⟩:=h
 refine wpAny_While (codeAny_whileLoop (fun n s'=>∃ σ' H',Inv X pins σ' H' s'/\W n σ' H') ?_ m0 ⟨σ,H,I,w0⟩)
 rintro n s1 ⟨σ1,H1,I1,w1⟩
 refine wpAny_passesOwn hp (thn (hc pins s1 σ1 H1 _ I1 (turn n σ1 H1 w1)) fun b s2 ⟨H2,I2,q2⟩=>?_)
 cases b with
 | true=>
  obtain ⟨N,hN,q2⟩:=q2
  rw [if_pos rfl]
  refine wpAny_passesOwn hp (thn (hb pins s2 σ1 H2 _ I2 q2) fun f s3 q3=>?_)
  cases f with
  | next=>
   obtain ⟨σ3,H3,I3,n3⟩:=q3
   obtain ⟨m',hm,w3⟩:=hN σ3 H3 n3
   exact ⟨m',hm,σ3,H3,I3,w3⟩
  | cont=>
   obtain ⟨σ3,H3,I3,n3⟩:=q3
   obtain ⟨m',hm,w3⟩:=hN σ3 H3 n3
   exact ⟨m',hm,σ3,H3,I3,w3⟩
  | brk=>exact q3
  | ret v=>exact q3
 | false=>
  rw [if_neg Bool.false_ne_true]
  exact wpAny_execs_nil ⟨σ1,H2,I2,q2⟩
end
structure It where
 go:Nat->Hp->Prop
 yld:Nat->Hp->V->Hp->Prop
 stop:Nat->Hp->Prop
def FpOk (X:Cx) (pins:List (Addr × Obj)) (H:Hp) (b:Addr):Prop:=
 H b=none/\b ≠ X.env.locals/\b ∉ X.fs/\(b ∈ X.ex\/X.s₀.heap.objs.size<=b)/\(∀ x c,X.env.cells.lookup x=some c->c ≠ b)/\∀ p ∈ X.pn ++ pins,p.1 ≠ b
theorem Inv.fpOk {X:Cx} {pins:List (Addr × Obj)} {σ:St} {H H':Hp} {s:Shared} {b:Addr} (I:Inv X pins σ H s) (hb:s.heap.objs.size<=b) (hn:H' b=none):FpOk X pins H' b:=by
 refine ⟨hn,Nat.ne_of_gt (Nat.lt_of_lt_of_le I.lt hb),I.nofs hb,.inr (Nat.le_trans I.sz hb),fun x c e z=>?_,fun p hp z=>?_⟩
 ·obtain ⟨v,q⟩:=I.cell x c e
  exact absurd (Nat.lt_of_lt_of_le q.lt (by rw [z]; exact hb)) (Nat.lt_irrefl _)
 ·exact absurd (Nat.lt_of_lt_of_le (Heap.lt_size (I.pin p hp).1) (by rw [z]; exact hb)) (Nat.lt_irrefl _)
structure Turn (P:Program) (w:World) (K:PySem.W.Frag) (tg:Expr) (J:It) (fp:List Addr) (it:Addr) (tn:Nat->Heap->Prop):Prop where
 mem:it ∈ fp
 obj:∀ i h,tn i h->∀ b ∈ fp,∃ o,h.get? b=some o/\∀ v,o.data ≠ .cell v
 keep:∀ i h h',tn i h->(∀ b ∈ fp,∀ o,h.get? b=some o->h'.get? b=some o)->tn i h'
 item:∀ (X:Cx),X.prog=P->X.w=w->X.K=K->X.calm=true->∀ (i:Nat) (pins:List (Addr × Obj)) (s:Shared) (σ:St) (H:Hp) (E:Value->Shared->Prop),Inv X pins σ H s->(∀ b ∈ fp,FpOk X pins H b)->tn i s.heap->J.go i H ->
  wpAny (model P w) X.A (pyNext (.ref it)) (fun r s1=>∃ u,r=some u /\
   wpAny (model P w) X.A (letOwnedTupleGo tg (.ref it) u) (fun _ s2=>∃ x H',Inv X pins σ H' s2/\RelV x u/\J.yld i H x H'/\tn (i + 1) s2.heap/\∀ b ∈ fp,H' b=none) E s1) E s
 done:∀ (X:Cx),X.prog=P->X.w=w->X.K=K->X.calm=true->∀ (i:Nat) (pins:List (Addr × Obj)) (s:Shared) (σ:St) (H:Hp) (E:Value->Shared->Prop),Inv X pins σ H s->(∀ b ∈ fp,FpOk X pins H b)->tn i s.heap->J.stop i H ->
  wpAny (model P w) X.A (pyNext (.ref it)) (fun r s1=>r=none/\Inv X pins σ H s1) E s
 self:∀ (A:Around) (i:Nat) (s:Shared) (Q:Value->Shared->Prop) (E:Value->Shared->Prop),tn i s.heap->Q (.ref it) s->wpAny (model P w) A (pyIter (.ref it)) Q E s
abbrev TI:=St->Hp->(It->Hp->Prop)->Prop
def PIE (X:Cx) (pins:List (Addr × Obj)) (σ:St) (tg:Expr) (R:It->Hp->Prop) (itv:Value) (s2:Shared):Prop:=
 ∃ (it:Addr) (fp:List Addr) (tn:Nat->Heap->Prop) (J:It) (H':Hp),itv=.ref it/\Inv X pins σ H' s2/\Turn X.prog X.w X.K tg J fp it tn/\tn 0 s2.heap/\(∀ b ∈ fp,FpOk X pins H' b)/\R J H'
def PI (X:Cx) (tg iter:Expr) (wi:TI):Prop:=
 ∀ (pins:List (Addr × Obj)) (s:Shared) (σ:St) (H:Hp) (R:It->Hp->Prop),Inv X pins σ H s->wi σ H R ->
  wpAny (model X.prog X.w) X.A (eval iter X.env) (fun v s1=>wpAny (model X.prog X.w) X.A (pyIter v) (PIE X pins σ tg R) X.xe s1) X.xe s
theorem go_of {M:Model} {A:Around} {E:Value->Shared->Prop} {s:Shared} {tg:Expr} {it:Addr} {u:Value} {o:Obj} {n:String} {vs:Array Value} {Q:Unit->Shared->Prop} (ho:s.heap.get? it=some o) (hc:o.cls=.type n) (hd:o.data=.fields vs)
  (hn:["enumerate","zip","dict_itemiterator","dict_reverseitemiterator","odict_iterator","itertools.zip_longest","itertools.pairwise"].contains n=false) (hQ:Q () s):wpAny M A (letOwnedTupleGo tg (.ref it) u) Q E s:=by
 unfold letOwnedTupleGo
 cases tg <;> first
  | exact wpAny_pure hQ
  | (cases u <;> first
    | exact wpAny_pure hQ
    | (refine wpAny_bind (wpAny_load ho ?_)
       rw [hc,hd]
       show wpAny M A (if (["enumerate","zip","dict_itemiterator","dict_reverseitemiterator","odict_iterator","itertools.zip_longest","itertools.pairwise"].contains n && vs[0]? == some (rawInt _))=true then _ else _) Q E s
       rw [if_neg (by intro h; rw [hn,Bool.false_and] at h; cases h)]
       exact wpAny_pure hQ))
def Itl (K:PySem.W.Frag) (a:Addr):It:=
 ⟨fun i H=>∃ xs x,SqL K H a xs/\xs[i]? = some x,fun i H x H'=>H'=H/\∀ xs,SqL K H a xs->xs[i]? = some x,fun i H=>∃ xs,SqL K H a xs/\xs.length<=i⟩
def Itt (K:PySem.W.Frag) (a:Addr):It:=
 ⟨fun i H=>∃ xs x,SqT K H a xs/\xs[i]? = some x,fun i H x H'=>H'=H/\∀ xs,SqT K H a xs->xs[i]? = some x,fun i H=>∃ xs,SqT K H a xs/\xs.length<=i⟩
def Itr (lo:Int) (n:Nat):It:=⟨fun i _=>i < n,fun i H x H'=>H'=H/\x=.int (lo + i),fun i _=>n<=i⟩
theorem turn_list {P:Program} {w:World} {K:PySem.W.Frag} {tg:Expr} (a it:Addr):Turn P w K tg (Itl K a) [it] it (fun i h=>h.IsListIter it a i) where
 mem:=by simp
 obj:=fun i h st b hb=>by
  have e:b=it:=by simpa using hb
  subst e
  obtain ⟨o,e,c,d⟩:=st
  exact ⟨o,e,fun v z=>by rw [d] at z; cases z⟩
 keep:=fun i h h' st k=>st.at fun o e=>k it (by simp) o e
 item:=by
  intro X hP hw hK hc i pins s σ H E I hf st hg
  subst hP hw hK
  obtain ⟨xs,x,hq,hx⟩:=hg
  obtain ⟨its,rv,p,hz⟩:=I.list hq
  obtain ⟨u,hu,ru⟩:=rv.get hx
  obtain ⟨f0,f1,f2,f3,f4,f5⟩:=hf it (by simp)
  refine wpAny_pyNext_list_item st p.isList (x:=u) (by simpa using hu) fun h' st' sb=>?_
  have I1:Inv X pins σ H { s with heap:=h' }:=I.turned (t':=s.toks) (fun b o hb e=>(sb.2 b hb).trans e) f0 f1 f3 f4 f5
  obtain ⟨o,e,c,d⟩:=id st'
  exact ⟨u,rfl,go_of (s:={ s with heap:=h' }) e c d (by decide) ⟨x,H,I1,ru,⟨rfl,fun ys hy=>by rw [I.list_inj hy hq]; exact hx⟩,st',fun b hb=>(hf b hb).1⟩⟩
 done:=by
  intro X hP hw hK hc i pins s σ H E I hf st hg
  subst hP hw hK
  obtain ⟨xs,hq,hx⟩:=hg
  obtain ⟨its,rv,p,hz⟩:=I.list hq
  obtain ⟨f0,f1,f2,f3,f4,f5⟩:=hf it (by simp)
  have hl:=rv.length
  exact wpAny_pyNext_list_end (I.ok.hd hc) st p.isList (by simp; (first|lia|omega)) fun h' eb=>⟨rfl,I.turned (t':=s.toks) (fun b o hb e=>eb b o hb e) f0 f1 f3 f4 f5⟩
 self:=fun _ _ _ _ _ st h=>wpAny_pyIter_listiter st h
theorem turn_tuple {P:Program} {w:World} {K:PySem.W.Frag} {tg:Expr} (a it:Addr):Turn P w K tg (Itt K a) [it] it (fun i h=>h.IsTupleIter it a i) where
 mem:=by simp
 obj:=fun i h st b hb=>by
  have e:b=it:=by simpa using hb
  subst e
  obtain ⟨o,e,c,d⟩:=st
  exact ⟨o,e,fun v z=>by rw [d] at z; cases z⟩
 keep:=fun i h h' st k=>st.at fun o e=>k it (by simp) o e
 item:=by
  intro X hP hw hK hc i pins s σ H E I hf st hg
  subst hP hw hK
  obtain ⟨xs,x,hq,hx⟩:=hg
  obtain ⟨its,rv,p,hz⟩:=I.tuple hq
  obtain ⟨u,hu,ru⟩:=rv.get hx
  obtain ⟨f0,f1,f2,f3,f4,f5⟩:=hf it (by simp)
  refine wpAny_pyNext_tuple_item st (show s.heap.IsTuple a its.toArray from p) (x:=u) (by simpa using hu) fun h' st' sb=>?_
  have I1:Inv X pins σ H { s with heap:=h' }:=I.turned (t':=s.toks) (fun b o hb e=>(sb.2 b hb).trans e) f0 f1 f3 f4 f5
  obtain ⟨o,e,c,d⟩:=id st'
  exact ⟨u,rfl,go_of (s:={ s with heap:=h' }) e c d (by decide) ⟨x,H,I1,ru,⟨rfl,fun ys hy=>by rw [I.tuple_inj hy hq]; exact hx⟩,st',fun b hb=>(hf b hb).1⟩⟩
 done:=by
  intro X hP hw hK hc i pins s σ H E I hf st hg
  subst hP hw hK
  obtain ⟨xs,hq,hx⟩:=hg
  obtain ⟨its,rv,p,hz⟩:=I.tuple hq
  obtain ⟨f0,f1,f2,f3,f4,f5⟩:=hf it (by simp)
  have hl:=rv.length
  exact wpAny_pyNext_tuple_end (I.ok.hd hc) st (show s.heap.IsTuple a its.toArray from p) (by simp; (first|lia|omega)) fun h' eb=>⟨rfl,I.turned (t':=s.toks) (fun b o hb e=>eb b o hb e) f0 f1 f3 f4 f5⟩
 self:=fun _ _ _ _ _ st h=>wpAny_pyIter_tupleiter st h
theorem turn_range {P:Program} {w:World} {K:PySem.W.Frag} {tg:Expr} (it:Addr) (lo:Int) (n:Nat):Turn P w K tg (Itr lo n) [it] it (fun i h=>IsRangeIter h it (lo + (i:Nat) * 1) ((n:Int) - (i:Nat)) 1) where
 mem:=by simp
 obj:=fun i h st b hb=>by
  have e:b=it:=by simpa using hb
  subst e
  exact ⟨_,st,fun v z=>by
   have z':Data.fields _=Data.cell v:=z
   cases z'⟩
 keep:=fun i h h' st k=>k it (by simp) _ st
 item:=by
  intro X hP hw hK hc i pins s σ H E I hf st hg
  subst hP hw hK
  obtain ⟨f0,f1,f2,f3,f4,f5⟩:=hf it (by simp)
  have W:=Walks.range (prog:=X.prog) (w:=X.w) (I.ok.hd hc) it lo 1 n
  refine W.item i s _ _ hg st fun v h' tk hv st' kk=>?_
  obtain ⟨t,rfl⟩:=hv
  have I1:Inv X pins σ H { s with heap:=h',toks:=tk }:=I.turned (fun b o hb e=>kk b o (by simpa using hb) e) f0 f1 f3 f4 f5
  refine ⟨_,rfl,go_of (s:={ s with heap:=h',toks:=tk }) (n:="range_iterator") st' rfl rfl (by decide) ⟨.int (lo + i),H,I1,⟨t,?_⟩,⟨rfl,rfl⟩,st',fun b hb=>(hf b hb).1⟩⟩
  rw [Int.mul_one]
 done:=by
  intro X hP hw hK hc i pins s σ H E I hf st hg
  subst hP hw hK
  obtain ⟨f0,f1,f2,f3,f4,f5⟩:=hf it (by simp)
  exact wpAny_pyNext_range_end (I.ok.hd hc) st (by have:n<=i:=hg; (first|lia|omega)) fun h' eb=>⟨rfl,I.turned (t':=s.toks) (fun b o hb e=>eb b o hb e) f0 f1 f3 f4 f5⟩
 self:=fun _ _ _ _ _ st h=>wpAny_pyIter_rangeiter st h
section
variable {X:Cx} {tg:Expr}
def iList (K:PySem.W.Frag) (tl:TE):TI:=fun σ H R=>tl σ H fun x H1=>∃ a,x=.ref a/\(∃ xs,SqL K H1 a xs)/\R (Itl K a) H1
def iTup (K:PySem.W.Frag) (tl:TE):TI:=fun σ H R=>tl σ H fun x H1=>∃ a,x=.ref a/\(∃ xs,SqT K H1 a xs)/\R (Itt K a) H1
theorem pi_list {l:Expr} {tl:TE} (hl:PE X l tl):PI X tg l (iList X.K tl):=by
 intro pins s σ H R I h
 refine thn (hl pins s σ H _ I h) fun v s1 ⟨x,H1,I1,r1,q1⟩=>?_
 obtain ⟨a,e,⟨xs,hq⟩,q⟩:=q1
 subst e
 cases r1
 obtain ⟨its,rv,p,hz⟩:=I1.list hq
 refine wpAny_pyIter_list p.isList ?_
 refine ⟨s1.heap.objs.size,[s1.heap.objs.size],_,_,H1,rfl,I1.kept (t':=s1.toks) fun b o e=>Heap.get?_push_of_some _ e,turn_list a _,⟨_,Heap.get?_push_size _ rfl,rfl,rfl⟩,fun b hb=>?_,q⟩
 have e:b=s1.heap.objs.size:=by simpa using hb
 subst e
 exact I1.fpOk (Nat.le_refl _) (I1.hok.fresh (Nat.le_refl _))
theorem pi_tup {l:Expr} {tl:TE} (hl:PE X l tl):PI X tg l (iTup X.K tl):=by
 intro pins s σ H R I h
 refine thn (hl pins s σ H _ I h) fun v s1 ⟨x,H1,I1,r1,q1⟩=>?_
 obtain ⟨a,e,⟨xs,hq⟩,q⟩:=q1
 subst e
 cases r1
 obtain ⟨its,rv,p,hz⟩:=I1.tuple hq
 refine wpAny_pyIter_tuple (show s1.heap.IsTuple a its.toArray from p) ?_
 refine ⟨s1.heap.objs.size,[s1.heap.objs.size],_,_,H1,rfl,I1.kept (t':=s1.toks) fun b o e=>Heap.get?_push_of_some _ e,turn_tuple a _,⟨_,Heap.get?_push_size _ rfl,rfl,rfl⟩,fun b hb=>?_,q⟩
 have e:b=s1.heap.objs.size:=by simpa using hb
 subst e
 exact I1.fpOk (Nat.le_refl _) (I1.hok.fresh (Nat.le_refl _))
theorem range_it {pins:List (Addr × Obj)} {σ:St} {H:Hp} {s:Shared} {R:It->Hp->Prop} {E:Value->Shared->Prop} {lo hi:Int} {t u v:Tok} {tk:Nat} (I:Inv X pins σ H s) (h1:-(2 ^ 62)<=lo) (h2:lo < 2 ^ 62) (h3:-(2 ^ 62)<=hi) (h4:hi < 2 ^ 62)
  (q:R (Itr lo (hi - lo).toNat) H):wpAny (model X.prog X.w) X.A (pyIter (.ref s.heap.objs.size)) (PIE X pins σ tg R) E { s with heap:=s.heap.push { cls:=.type "range",data:=.fields #[.int lo t,.int hi u,.int 1 v] },toks:=tk }:=by
 refine wpAny_pyIter_range (IsRange.new ..) (small_one h1 h2 h3 h4) ?_
 have I1:Inv X pins σ H { s with heap:=s.heap.push { cls:=.type "range",data:=.fields #[.int lo t,.int hi u,.int 1 v] },toks:=tk }:=I.kept fun b o e=>Heap.get?_push_of_some _ e
 refine ⟨(s.heap.push { cls:=.type "range",data:=.fields #[.int lo t,.int hi u,.int 1 v] }).objs.size,[(s.heap.push { cls:=.type "range",data:=.fields #[.int lo t,.int hi u,.int 1 v] }).objs.size],_,_,H,rfl,
  I1.kept (t':=tk) fun b o e=>Heap.get?_push_of_some _ e,turn_range _ lo (hi - lo).toNat,?_,fun b hb=>?_,q⟩
 ·have e1:lo + ((0:Nat):Int) * 1=lo:=by simp
  have e2:(((hi - lo).toNat:Nat):Int) - ((0:Nat):Int)=Builtin.Range.rangeSize lo hi 1:=by rw [rangeSize_one]; split <;> (first|lia|omega)
  show IsRangeIter _ _ (lo + ((0:Nat):Int) * 1) ((((hi - lo).toNat:Nat):Int) - ((0:Nat):Int)) 1
  rw [e1,e2]
  exact Heap.get?_push_size _ rfl
 ·have e:b=(s.heap.push { cls:=.type "range",data:=.fields #[.int lo t,.int hi u,.int 1 v] }).objs.size:=by simpa using hb
  subst e
  exact I1.fpOk (Nat.le_refl _) (I1.hok.fresh (Nat.le_refl _))
def iRng1 (ta:TA):TI:=fun σ H R=>ta σ H fun vs H1=>∃ j:Int,vs=[.int j]/\-(2 ^ 62)<=j/\j < 2 ^ 62/\R (Itr 0 j.toNat) H1
def iRng2 (ta:TA):TI:=fun σ H R=>ta σ H fun vs H1=>∃ i j:Int,vs=[.int i,.int j]/\(-(2 ^ 62)<=i/\i < 2 ^ 62/\-(2 ^ 62)<=j/\j < 2 ^ 62)/\R (Itr i (j - i).toNat) H1
theorem pi_range1 {a:Expr} {ta:TA} {p pos:Pos} (hg:Gl X "range") (hm:X.mg "range"=none) (ha:PA X [a] ta) (hs:starEach [a] X.env=[(false,eval a X.env)]:=by rfl):PI X tg (.Call (.Name "range" p) [a] [] pos) (iRng1 ta):=by
 intro pins s σ H R I h
 refine Call_ (ld_blt I hg hm boot_range (PyProof.Rows.callWith_type1 (thn (ha pos pins s σ H _ I h) fun us s1 ⟨vs,H1,I1,r1,q1⟩=>?_) hs rfl))
 obtain ⟨j,e,q1,q2,q⟩:=q1
 subst e
 cases r1 with
 | cons r rr=>
  cases rr
  obtain ⟨t,rfl⟩:=r
  exact call_range_1 (range_it I1 (by (first|lia|omega)) (by (first|lia|omega)) q1 q2 (by simpa using q))
theorem pi_range2 {a b:Expr} {ta:TA} {p pos:Pos} (hg:Gl X "range") (hm:X.mg "range"=none) (ha:PA X [a,b] ta) (hs:starEach [a,b] X.env=[(false,eval a X.env),(false,eval b X.env)]:=by rfl) (hs2:starEach [b] X.env=[(false,eval b X.env)]:=by rfl) :
  PI X tg (.Call (.Name "range" p) [a,b] [] pos) (iRng2 ta):=by
 intro pins s σ H R I h
 refine Call_ (ld_blt I hg hm boot_range (PyProof.Rows.callWith_type1 (thn (ha pos pins s σ H _ I h) fun us s1 ⟨vs,H1,I1,r1,q1⟩=>?_) (by rw [hs,hs2]) (by rw [hs2]; rfl)))
 obtain ⟨i,j,e,⟨q1,q2,q3,q4⟩,q⟩:=q1
 subst e
 cases r1 with
 | cons r rr=>
  cases rr with
  | cons r' rr=>
   cases rr
   obtain ⟨t,rfl⟩:=r
   obtain ⟨t',rfl⟩:=r'
   exact call_range_2 (range_it I1 q1 q2 q3 q4 q)
def tFor (wi:TI) (g:TG) (tb:TS):TS:=fun D σ H=>wi σ H fun J H1=>∃ W:Nat->Nat->St->Hp->Prop,(∃ m,W 0 m σ H1)/\∀ i m σ H,W i m σ H ->
 (J.stop i H/\D.nx σ H)\/(J.go i H/\∃ N:St->Hp->Prop,(∀ σ' H',N σ' H'->∃ m',m' < m/\W (i + 1) m' σ' H')/\∀ x H',J.yld i H x H'->g x σ H' fun σ2 H2=>tb { D with nx:=N,ct:=N,bk:=D.nx } σ2 H2)
def pinsAt (fp:List Addr) (h:Heap):List (Addr × Obj):=fp.filterMap fun b=>(h.get? b).map fun o=>(b,o)
theorem mem_pinsAt {fp:List Addr} {h:Heap} {b:Addr} {o:Obj} (hb:b ∈ fp) (e:h.get? b=some o):(b,o) ∈ pinsAt fp h:=List.mem_filterMap.mpr ⟨b,hb,by rw [e]; rfl⟩
theorem of_pinsAt {fp:List Addr} {h:Heap} {p:Addr × Obj} (hp:p ∈ pinsAt fp h):p.1 ∈ fp/\h.get? p.1=some p.2:=by
 obtain ⟨b,hb,e⟩:=List.mem_filterMap.mp hp
 cases q:h.get? b with
 | none=>rw [q] at e; cases e
 | some o=>
  rw [q] at e
  have e':(b,o)=p:=Option.some.inj e
  subst e'
  exact ⟨hb,q⟩
theorem Inv.pinned {pins:List (Addr × Obj)} {σ:St} {H:Hp} {s:Shared} {fp:List Addr} (I:Inv X pins σ H s) (hf:∀ b ∈ fp,FpOk X pins H b) (ho:∀ b ∈ fp,∃ o,s.heap.get? b=some o/\∀ v,o.data ≠ .cell v):Inv X (pins ++ pinsAt fp s.heap) σ H s:=
 I.pins_of fun p hp=>(List.mem_append.mp hp).elim (fun z=>I.pin p (List.mem_append_right _ z)) fun z=>by
  obtain ⟨hb,e⟩:=of_pinsAt z
  obtain ⟨f0,f1,f2,_⟩:=hf p.1 hb
  obtain ⟨o,e',d⟩:=ho p.1 hb
  rw [e] at e'; cases e'
  exact ⟨e,f0,f1,f2,d⟩
theorem Inv.unpinned {pins pl:List (Addr × Obj)} {σ:St} {H:Hp} {s:Shared} (I:Inv X (pins ++ pl) σ H s):Inv X pins σ H s:=I.pins_of fun p hp=>I.pin p (List.mem_append_right _ (List.mem_append_left _ hp))
theorem ps_for {iter:Expr} {body:List Stmt} {wi:TI} {g:TG} {tb:TS} {pos:Pos} (hp:PassesOwn (model X.prog X.w) X.A X.env X.xe) (hc:X.calm=true) (hi:PI X tg iter wi) (hg:PG X tg g) (hb:PSs X body tb)
  (hs:∀ x,foldedSetIterable iter X.env x=pure x:=by intro _; rfl):PS X (.For tg iter body [] pos) (tFor wi g tb):=by
 intro pins s σ H D I h
 refine wpAny_For (thn (hi pins s σ H _ I h) fun v s1 h1=>thn h1 fun itv s2 h2=>?_) hs
 obtain ⟨it,fp,tn,J,H2,e,I2,T,st2,f2,W,⟨m0,w0⟩,turn⟩:=h2
 subst e
 have stat:∀ {H':Hp},(∀ b ∈ fp,H' b=none)->∀ b ∈ fp,FpOk X pins H' b:=fun hn b hb=>⟨hn b hb,(f2 b hb).2⟩
 refine codeAny_forLoop_any (fun n s'=>∃ i σ' H',Inv X pins σ' H' s'/\tn i s'.heap/\(∀ b ∈ fp,H' b=none)/\W i n σ' H') ?_ m0 ⟨0,σ,H2,I2,st2,fun b hb=>(f2 b hb).1,w0⟩
 rintro n s3 ⟨i,σ3,H3,I3,st3,fr3,w3⟩
 rcases turn i n σ3 H3 w3 with ⟨stop,qn⟩ | ⟨go,N,hN,step⟩
 ·refine wpAny_passesOwn hp (thn (T.done X rfl rfl rfl hc i pins s3 σ3 H3 X.xe I3 (stat fr3) st3 stop) fun r s4 ⟨hr,I4⟩=>?_)
  subst hr
  exact wpAny_execs_nil ⟨σ3,H3,I4,qn⟩
 ·refine wpAny_passesOwn hp (thn (T.item X rfl rfl rfl hc i pins s3 σ3 H3 X.xe I3 (stat fr3) st3 go) fun r s4 ⟨u,hr,h4⟩=>?_)
  subst hr
  refine wpAny_passesOwn hp (thn h4 fun _ s5 ⟨x,H5,I5,r5,y5,st5,fr5⟩=>?_)
  have I5':=I5.pinned (stat fr5) (T.obj _ _ st5)
  refine wpAny_passesOwn hp (thn (hg _ s5 σ3 H5 x u _ I5' r5 (step x H5 y5)) fun _ s6 ⟨σ6,H6,I6,q6⟩=>?_)
  refine wpAny_passesOwn hp (thn (hb _ s6 σ6 H6 _ I6 q6) fun f s7 q7=>?_)
  have again:∀ {σ7:St} {H7:Hp},Inv X (pins ++ pinsAt fp s5.heap) σ7 H7 s7->N σ7 H7->∃ m,m < n/\∃ i σ' H',Inv X pins σ' H' s7/\tn i s7.heap/\(∀ b ∈ fp,H' b=none)/\W i m σ' H':=fun {σ7 H7} I7 n7=>by
   obtain ⟨m',hm,w7⟩:=hN σ7 H7 n7
   refine ⟨m',hm,i + 1,σ7,H7,I7.unpinned,T.keep _ _ _ st5 fun b hb o e=>(I7.pin (b,o) (List.mem_append_right _ (List.mem_append_right _ (mem_pinsAt hb e)))).1,fun b hb=>?_,w7⟩
   obtain ⟨o,e,d⟩:=T.obj _ _ st5 b hb
   exact (I7.pin (b,o) (List.mem_append_right _ (List.mem_append_right _ (mem_pinsAt hb e)))).2.1
  cases f with
  | next=>obtain ⟨σ7,H7,I7,n7⟩:=q7; exact again I7 n7
  | cont=>obtain ⟨σ7,H7,I7,n7⟩:=q7; exact again I7 n7
  | brk=>obtain ⟨σ7,H7,I7,q7⟩:=q7; exact ⟨σ7,H7,I7.unpinned,q7⟩
  | ret v=>obtain ⟨x7,σ7,H7,I7,r7,q7⟩:=q7; exact ⟨x7,σ7,H7,I7.unpinned,r7,q7⟩
end
theorem for_list {K:PySem.W.Frag} {a:Addr} {xs:List V} {g:TG} {tb:TS} {D:Ends} {σ:St} {H:Hp} (Pv:Nat->St->Hp->Prop) (h0:Pv 0 σ H) (hl:∀ i σ H,i<=xs.length->Pv i σ H->SqL K H a xs)
  (hs:∀ i x σ H,xs[i]? = some x->Pv i σ H->g x σ H fun σ2 H2=>tb { D with nx:=Pv (i + 1),ct:=Pv (i + 1),bk:=D.nx } σ2 H2) (hd:∀ σ H,Pv xs.length σ H->D.nx σ H) :
  ∃ W:Nat->Nat->St->Hp->Prop,(∃ m,W 0 m σ H)/\∀ i m σ H,W i m σ H ->
   ((Itl K a).stop i H/\D.nx σ H)\/((Itl K a).go i H/\∃ N:St->Hp->Prop,(∀ σ' H',N σ' H'->∃ m',m' < m/\W (i + 1) m' σ' H')/\∀ x H',(Itl K a).yld i H x H'->g x σ H' fun σ2 H2=>tb { D with nx:=N,ct:=N,bk:=D.nx } σ2 H2):=by
 refine ⟨fun i m σ H=>m=xs.length - i/\i<=xs.length/\Pv i σ H,⟨xs.length,by simp,Nat.zero_le _,h0⟩,?_⟩
 rintro i m σ H ⟨rfl,hi,p⟩
 have q:=hl i σ H hi p
 by_cases hlt:i < xs.length
 ·refine .inr ⟨⟨xs,xs[i],q,by simp [hlt]⟩,Pv (i + 1),fun σ' H' p'=>⟨xs.length - (i + 1),by (first|lia|omega),rfl,hlt,p'⟩,fun x H' y=>?_⟩
  obtain ⟨e,y⟩:=y
  subst e
  exact hs i x σ _ (y xs q) p
 ·have e:i=xs.length:=by (first|lia|omega)
  subst e
  exact .inl ⟨⟨xs,q,Nat.le_refl _⟩,hd σ H p⟩
theorem for_tup {K:PySem.W.Frag} {a:Addr} {xs:List V} {g:TG} {tb:TS} {D:Ends} {σ:St} {H:Hp} (Pv:Nat->St->Hp->Prop) (h0:Pv 0 σ H) (hl:∀ i σ H,i<=xs.length->Pv i σ H->SqT K H a xs)
  (hs:∀ i x σ H,xs[i]? = some x->Pv i σ H->g x σ H fun σ2 H2=>tb { D with nx:=Pv (i + 1),ct:=Pv (i + 1),bk:=D.nx } σ2 H2) (hd:∀ σ H,Pv xs.length σ H->D.nx σ H) :
  ∃ W:Nat->Nat->St->Hp->Prop,(∃ m,W 0 m σ H)/\∀ i m σ H,W i m σ H ->
   ((Itt K a).stop i H/\D.nx σ H)\/((Itt K a).go i H/\∃ N:St->Hp->Prop,(∀ σ' H',N σ' H'->∃ m',m' < m/\W (i + 1) m' σ' H')/\∀ x H',(Itt K a).yld i H x H'->g x σ H' fun σ2 H2=>tb { D with nx:=N,ct:=N,bk:=D.nx } σ2 H2):=by
 refine ⟨fun i m σ H=>m=xs.length - i/\i<=xs.length/\Pv i σ H,⟨xs.length,by simp,Nat.zero_le _,h0⟩,?_⟩
 rintro i m σ H ⟨rfl,hi,p⟩
 have q:=hl i σ H hi p
 by_cases hlt:i < xs.length
 ·refine .inr ⟨⟨xs,xs[i],q,by simp [hlt]⟩,Pv (i + 1),fun σ' H' p'=>⟨xs.length - (i + 1),by (first|lia|omega),rfl,hlt,p'⟩,fun x H' y=>?_⟩
  obtain ⟨e,y⟩:=y
  subst e
  exact hs i x σ _ (y xs q) p
 ·have e:i=xs.length:=by (first|lia|omega)
  subst e
  exact .inl ⟨⟨xs,q,Nat.le_refl _⟩,hd σ H p⟩
theorem for_range {lo:Int} {n:Nat} {g:TG} {tb:TS} {D:Ends} {σ:St} {H:Hp} (Pv:Nat->St->Hp->Prop) (h0:Pv 0 σ H)
  (hs:∀ i σ H,i < n->Pv i σ H->g (.int (lo + i)) σ H fun σ2 H2=>tb { D with nx:=Pv (i + 1),ct:=Pv (i + 1),bk:=D.nx } σ2 H2) (hd:∀ σ H,Pv n σ H->D.nx σ H) :
  ∃ W:Nat->Nat->St->Hp->Prop,(∃ m,W 0 m σ H)/\∀ i m σ H,W i m σ H ->
   ((Itr lo n).stop i H/\D.nx σ H)\/((Itr lo n).go i H/\∃ N:St->Hp->Prop,(∀ σ' H',N σ' H'->∃ m',m' < m/\W (i + 1) m' σ' H')/\∀ x H',(Itr lo n).yld i H x H'->g x σ H' fun σ2 H2=>tb { D with nx:=N,ct:=N,bk:=D.nx } σ2 H2):=by
 refine ⟨fun i m σ H=>m=n - i/\i<=n/\Pv i σ H,⟨n,by simp,Nat.zero_le _,h0⟩,?_⟩
 rintro i m σ H ⟨rfl,hi,p⟩
 by_cases hlt:i < n
 ·refine .inr ⟨hlt,Pv (i + 1),fun σ' H' p'=>⟨n - (i + 1),by (first|lia|omega),rfl,hlt,p'⟩,fun x H' y=>?_⟩
  obtain ⟨e,y⟩:=y
  subst e y
  exact hs i σ _ hlt p
 ·have e:i=n:=by (first|lia|omega)
  subst e
  exact .inl ⟨Nat.le_refl _,hd σ H p⟩
abbrev R2:=V->V->Hp->VK->Prop
def OpR (X:Cx) (f:Value->Value->Sem Value) (r:R2):Prop:=
 ∀ (pins:List (Addr × Obj)) (s:Shared) (σ:St) (H:Hp) (x y:V) (v u:Value) (Q:VK),Inv X pins σ H s->RelV x v->RelV y u->r x y H Q ->
  wpAny (model X.prog X.w) X.A (f v u) (EP X pins σ Q) X.xe s
def UnR (X:Cx) (f:Value->Sem Value) (r:V->Hp->VK->Prop):Prop:=
 ∀ (pins:List (Addr × Obj)) (s:Shared) (σ:St) (H:Hp) (x:V) (v:Value) (Q:VK),Inv X pins σ H s->RelV x v->r x H Q ->
  wpAny (model X.prog X.w) X.A (f v) (EP X pins σ Q) X.xe s
def CallR (X:Cx) (f:Value) (r:List V->Hp->VK->Prop):Prop:=
 ∀ (pins:List (Addr × Obj)) (s:Shared) (σ:St) (H:Hp) (xs:List V) (us:List Value) (Q:VK),Inv X pins σ H s->Vals xs us->r xs H Q ->
  wpAny (model X.prog X.w) X.A (call f us) (EP X pins σ Q) X.xe s
def TruR (X:Cx) (r:V->Hp->(Bool->Hp->Prop)->Prop):Prop:=
 ∀ (pins:List (Addr × Obj)) (s:Shared) (σ:St) (H:Hp) (x:V) (v:Value) (Q:Bool->Hp->Prop),Inv X pins σ H s->RelV x v->r x H Q ->
  wpAny (model X.prog X.w) X.A (truthy v) (TP X pins σ Q) X.xe s
def tOp (r:R2) (ta tb:TE):TE:=fun σ H Q=>ta σ H fun x H1=>tb σ H1 fun y H2=>r x y H2 Q
def tUn (r:V->Hp->VK->Prop) (ta:TE):TE:=fun σ H Q=>ta σ H fun x H1=>r x H1 Q
def rI (C:Int->Int->Prop) (g:Int->Int->V):R2:=fun x y H Q=>∃ i j,x=.int i/\y=.int j/\C i j/\Q (g i j) H
def rI0 (g:Int->Int->V):R2:=fun x y H Q=>∃ i j,x=.int i/\y=.int j/\Q (g i j) H
def rU (g:Int->V):V->Hp->VK->Prop:=fun x H Q=>∃ i,x=.int i/\Q (g i) H
section
variable {X:Cx} {a b c:Expr} {ta tb tc:TE} {pos:Pos}
theorem binT (ha:PE X a ta) (hb:PE X b tb) {pins:List (Addr × Obj)} {s:Shared} {σ:St} {H:Hp} {R:V->V->Hp->Prop} (I:Inv X pins σ H s)
  (h:ta σ H fun x H1=>tb σ H1 fun y H2=>R x y H2) {Q:Value->Shared->Prop} {f:Value->Value->Sem Value}
  (hf:∀ v u s2 x y H2,Inv X pins σ H2 s2->RelV x v->RelV y u->R x y H2->wpAny (model X.prog X.w) X.A (f v u) Q X.xe s2) :
  wpAny (model X.prog X.w) X.A (eval a X.env) (fun v s₁=>wpAny (model X.prog X.w) X.A (eval b X.env) (fun u s₂=>wpAny (model X.prog X.w) X.A (f v u) Q X.xe s₂) X.xe s₁) X.xe s:=by
 refine thn (ha pins s σ H _ I h) fun v s1 ⟨x,H1,I1,r1,q1⟩=>?_
 refine thn (hb pins s1 σ H1 _ I1 q1) fun u s2 ⟨y,H2,I2,r2,q2⟩=>?_
 exact hf v u s2 x y H2 I2 r1 r2 q2
theorem pe_op {op:Operator} {r:R2} (ho:OpR X (binaryOp op) r) (ha:PE X a ta) (hb:PE X b tb):PE X (.BinOp a op b pos) (tOp r ta tb):=by
 intro pins s σ H Q I h
 exact wpAny_BinOp (binT ha hb I h fun v u s2 x y H2 I2 rx ry q=>ho pins s2 σ H2 x y v u Q I2 rx ry q)
theorem pe_un {op:UnaryOp} {r:V->Hp->VK->Prop} (ho:UnR X (unaryOp op) r) (ha:PE X a ta):PE X (.UnaryOp op a pos) (tUn r ta):=by
 intro pins s σ H Q I h
 exact UnaryOp_ (thn (ha pins s σ H _ I h) fun v s1 ⟨x,H1,I1,r1,q1⟩=>ho pins s1 σ H1 x v Q I1 r1 q1)
theorem opI {f:Value->Value->Sem Value} {C:Int->Int->Prop} {g:Int->Int->Int}
  (rule:∀ (i j:Int) (t u:Tok) (s:Shared) (Q:Value->Shared->Prop) (E:Value->Shared->Prop),C i j->Q (.int (g i j) s.toks) { s with toks:=s.toks + 1 }->wpAny (model X.prog X.w) X.A (f (.int i t) (.int j u)) Q E s) :
  OpR X f (rI C fun i j=>.int (g i j)):=by
 intro pins s σ H x y v u Q I rx ry h
 obtain ⟨i,j,rfl,rfl,hc,q⟩:=h
 obtain ⟨t,rfl⟩:=rx
 obtain ⟨t',rfl⟩:=ry
 exact rule i j t t' s _ _ hc ⟨.int (g i j),H,I.tok _,⟨_,rfl⟩,q⟩
theorem opI0 {f:Value->Value->Sem Value} {g:Int->Int->Int}
  (rule:∀ (i j:Int) (t u:Tok) (s:Shared) (Q:Value->Shared->Prop) (E:Value->Shared->Prop),Q (.int (g i j) s.toks) { s with toks:=s.toks + 1 }->wpAny (model X.prog X.w) X.A (f (.int i t) (.int j u)) Q E s) :
  OpR X f (rI0 fun i j=>.int (g i j)):=by
 intro pins s σ H x y v u Q I rx ry h
 obtain ⟨i,j,rfl,rfl,q⟩:=h
 obtain ⟨t,rfl⟩:=rx
 obtain ⟨t',rfl⟩:=ry
 exact rule i j t t' s _ _ ⟨.int (g i j),H,I.tok _,⟨_,rfl⟩,q⟩
theorem opB0 {f:Value->Value->Sem Value} {g:Int->Int->Bool}
  (rule:∀ (i j:Int) (t u:Tok) (s:Shared) (Q:Value->Shared->Prop) (E:Value->Shared->Prop),Q (.bool (g i j)) s->wpAny (model X.prog X.w) X.A (f (.int i t) (.int j u)) Q E s) :
  OpR X f (rI0 fun i j=>.bl (g i j)):=by
 intro pins s σ H x y v u Q I rx ry h
 obtain ⟨i,j,rfl,rfl,q⟩:=h
 obtain ⟨t,rfl⟩:=rx
 obtain ⟨t',rfl⟩:=ry
 exact rule i j t t' s _ _ ⟨.bl (g i j),H,I,rfl,q⟩
def CPow (i j:Int):Prop:=0<=j/\j<=1000000/\i.natAbs < 2 ^ 64
def CMul (i j:Int):Prop:=(-(2 ^ 64) < i/\i < 2 ^ 64)\/(-(2 ^ 64) < j/\j < 2 ^ 64)
theorem CMul.ok {i j:Int} (h:CMul i j):IntMulOk i j:=by
 rcases h with ⟨h1,h2⟩ | ⟨h1,h2⟩
 ·exact .of_left (intBits_le_64 h1 h2)
 ·exact .of_right (intBits_le_64 h1 h2)
theorem op_add:OpR X (binaryOp .Add) (rI0 fun i j=>.int (i + j)):=opI0 fun _ _ _ _ _ _ _ q=>add_int q
theorem op_sub:OpR X (binaryOp .Sub) (rI0 fun i j=>.int (i - j)):=opI0 fun _ _ _ _ _ _ _ q=>sub_int q
theorem op_mul:OpR X (binaryOp .Mult) (rI CMul fun i j=>.int (i * j)):=opI fun _ _ _ _ _ _ _ hc q=>mul_int q hc.ok
theorem op_mod:OpR X (binaryOp .Mod) (rI (fun _ j=>0 < j) fun i j=>.int (i % j)):=opI fun i j _ _ _ _ _ hc q=>by
 have h1:(0:Int) < j:=hc
 exact mod_int' (by (first|lia|omega)) (by rw [Int.fmod_eq_emod_of_nonneg i (by (first|lia|omega))]; exact q)
theorem op_pow:OpR X (binaryOp .Pow) (rI CPow fun i j=>.int (i ^ j.toNat)):=opI fun _ _ _ _ _ _ _ hc q=>pow_int_small hc.1 hc.2.1 hc.2.2 q
theorem unI {f:Value->Sem Value} {g:Int->Int}
  (rule:∀ (i:Int) (t:Tok) (s:Shared) (Q:Value->Shared->Prop) (E:Value->Shared->Prop),Q (.int (g i) s.toks) { s with toks:=s.toks + 1 }->wpAny (model X.prog X.w) X.A (f (.int i t)) Q E s) :
  UnR X f (rU fun i=>.int (g i)):=by
 intro pins s σ H x v Q I rx h
 obtain ⟨i,rfl,q⟩:=h
 obtain ⟨t,rfl⟩:=rx
 exact rule i t s _ _ ⟨.int (g i),H,I.tok _,⟨_,rfl⟩,q⟩
theorem un_neg:UnR X (unaryOp .USub) (rU fun i=>.int (-i)):=unI fun _ _ _ _ _ q=>neg_int q
end
def scal:V->V->Bool
 | .non,.non=>true | .non,.int _=>true | .int _,.non=>true | .non,.bl _=>true | .bl _,.non=>true | .non,.str _=>true | .str _,.non=>true
 | .int _,.int _=>true | .bl _,.bl _=>true | .str _,.str _=>true | .byt _,.byt _=>true
 | .int _,.str _=>true | .str _,.int _=>true | .bl _,.str _=>true | .str _,.bl _=>true
 | _,_=>false
def rEq:R2:=fun x y H Q=>scal x y=true/\Q (.bl (decide (x=y))) H
def rNe:R2:=fun x y H Q=>scal x y=true/\Q (.bl (!decide (x=y))) H
theorem dec_int {i j:Int}:decide (V.int i=V.int j)=(i == j):=by
 rw [Bool.eq_iff_iff]
 simp
theorem dec_bl {i j:Bool}:decide (V.bl i=V.bl j)=(i == j):=by
 rw [Bool.eq_iff_iff]
 simp
theorem dec_str {i j:Str}:decide (V.str i=V.str j)=(i == j):=by
 rw [Bool.eq_iff_iff]
 simp
theorem dec_byt {i j:Array UInt8}:decide (V.byt i=V.byt j)=(i.toList == j.toList):=by
 rw [Bool.eq_iff_iff]
 cases i
 cases j
 simp
section
variable {X:Cx} {a b c:Expr} {ta tb tc:TE} {pos:Pos}
theorem fin_bl {pins:List (Addr × Obj)} {σ:St} {H:Hp} {s:Shared} {Q:VK} {k k':Bool} (I:Inv X pins σ H s) (q:Q (.bl k) H) (e:k=k'):EP X pins σ Q (.bool k') s:=by
 subst e
 exact ⟨.bl k,H,I,rfl,q⟩
theorem op_eq:OpR X (compareOp .Eq) rEq:=by
 intro pins s σ H x y v u Q I rx ry h
 obtain ⟨hs,q⟩:=h
 cases x with
 | non=>
  cases rx
  cases y with
  | non=>cases ry; exact PySem.EqNone.eq_none_none (fin_bl I q (by simp))
  | bl j=>cases ry; exact PySem.EqNone.eq_none_bool (fin_bl I q (by simp))
  | int j=>obtain ⟨t',rfl⟩:=ry; exact PySem.EqNone.eq_none_int (fin_bl I q (by simp))
  | str j=>obtain ⟨t',rfl⟩:=ry; exact PySem.EqNone.eq_none_str (fin_bl I q (by simp))
  | _=>exact absurd (show false=true from hs) Bool.false_ne_true
 | bl i=>
  cases rx
  cases y with
  | non=>cases ry; exact PySem.EqNone.eq_bool_none (fin_bl I q (by simp))
  | bl j=>cases ry; exact eq_bool (fin_bl I q dec_bl)
  | str j=>obtain ⟨t',rfl⟩:=ry; exact PySem.EqMixed.eq_bool_str (fin_bl I q (by simp))
  | _=>exact absurd (show false=true from hs) Bool.false_ne_true
 | int i=>
  obtain ⟨t,rfl⟩:=rx
  cases y with
  | non=>cases ry; exact PySem.EqNone.eq_int_none (fin_bl I q (by simp))
  | int j=>obtain ⟨t',rfl⟩:=ry; exact eq_int (fin_bl I q dec_int)
  | str j=>obtain ⟨t',rfl⟩:=ry; exact PySem.EqMixed.eq_int_str (fin_bl I q (by simp))
  | _=>exact absurd (show false=true from hs) Bool.false_ne_true
 | str i=>
  obtain ⟨t,rfl⟩:=rx
  cases y with
  | non=>cases ry; exact PySem.EqNone.eq_str_none (fin_bl I q (by simp))
  | bl j=>cases ry; exact PySem.EqMixed.eq_str_bool (fin_bl I q (by simp))
  | int j=>obtain ⟨t',rfl⟩:=ry; exact PySem.EqMixed.eq_str_int (fin_bl I q (by simp))
  | str j=>obtain ⟨t',rfl⟩:=ry; exact eq_str (fin_bl I q dec_str)
  | _=>exact absurd (show false=true from hs) Bool.false_ne_true
 | byt i=>
  obtain ⟨t,rfl⟩:=rx
  cases y with
  | byt j=>obtain ⟨t',rfl⟩:=ry; exact PySem.W.eq_bytes (fin_bl I q dec_byt)
  | _=>exact absurd (show false=true from hs) Bool.false_ne_true
 | _=>cases y <;> exact absurd (show false=true from hs) Bool.false_ne_true
theorem op_ne:OpR X (compareOp .NotEq) rNe:=by
 intro pins s σ H x y v u Q I rx ry h
 obtain ⟨hs,q⟩:=h
 cases x with
 | non=>
  cases rx
  cases y with
  | non=>cases ry; exact PySem.EqNone.ne_none_none (fin_bl I q (by simp))
  | bl j=>cases ry; exact PySem.EqNone.ne_none_bool (fin_bl I q (by simp))
  | int j=>obtain ⟨t',rfl⟩:=ry; exact PySem.EqNone.ne_none_int (fin_bl I q (by simp))
  | str j=>obtain ⟨t',rfl⟩:=ry; exact PySem.EqNone.ne_none_str (fin_bl I q (by simp))
  | _=>exact absurd (show false=true from hs) Bool.false_ne_true
 | bl i=>
  cases rx
  cases y with
  | non=>cases ry; exact PySem.EqNone.ne_bool_none (fin_bl I q (by simp))
  | bl j=>cases ry; exact ne_bool (fin_bl I q (congrArg not dec_bl))
  | str j=>obtain ⟨t',rfl⟩:=ry; exact PySem.EqMixed.ne_bool_str (fin_bl I q (by simp))
  | _=>exact absurd (show false=true from hs) Bool.false_ne_true
 | int i=>
  obtain ⟨t,rfl⟩:=rx
  cases y with
  | non=>cases ry; exact PySem.EqNone.ne_int_none (fin_bl I q (by simp))
  | int j=>obtain ⟨t',rfl⟩:=ry; exact ne_int (fin_bl I q (congrArg not dec_int))
  | str j=>obtain ⟨t',rfl⟩:=ry; exact PySem.EqMixed.ne_int_str (fin_bl I q (by simp))
  | _=>exact absurd (show false=true from hs) Bool.false_ne_true
 | str i=>
  obtain ⟨t,rfl⟩:=rx
  cases y with
  | non=>cases ry; exact PySem.EqNone.ne_str_none (fin_bl I q (by simp))
  | bl j=>cases ry; exact PySem.EqMixed.ne_str_bool (fin_bl I q (by simp))
  | int j=>obtain ⟨t',rfl⟩:=ry; exact PySem.EqMixed.ne_str_int (fin_bl I q (by simp))
  | str j=>obtain ⟨t',rfl⟩:=ry; exact ne_str (fin_bl I q (congrArg not dec_str))
  | _=>exact absurd (show false=true from hs) Bool.false_ne_true
 | byt i=>
  obtain ⟨t,rfl⟩:=rx
  cases y with
  | byt j=>obtain ⟨t',rfl⟩:=ry; exact PySem.W.ne_bytes (fin_bl I q (congrArg not dec_byt))
  | _=>exact absurd (show false=true from hs) Bool.false_ne_true
 | _=>cases y <;> exact absurd (show false=true from hs) Bool.false_ne_true
theorem op_lt:OpR X (compareOp .Lt) (rI0 fun i j=>.bl (decide (i < j))):=opB0 fun _ _ _ _ _ _ _ q=>lt_int q
theorem op_le:OpR X (compareOp .LtE) (rI0 fun i j=>.bl (decide (i<=j))):=opB0 fun _ _ _ _ _ _ _ q=>le_int q
theorem op_gt:OpR X (compareOp .Gt) (rI0 fun i j=>.bl (decide (j < i))):=opB0 fun _ _ _ _ _ _ _ q=>gt_int q
theorem op_ge:OpR X (compareOp .GtE) (rI0 fun i j=>.bl (decide (j<=i))):=opB0 fun _ _ _ _ _ _ _ q=>ge_int q
theorem nomark (b:Expr) {op:CmpOp} (h:op ≠ .In:=by decide) (h2:op ≠ .NotIn:=by decide):behindInMarks op b=false:=by
 have e1:(op == CmpOp.In)=false:=by cases op <;> first | rfl | exact absurd rfl h
 have e2:(op == CmpOp.NotIn)=false:=by cases op <;> first | rfl | exact absurd rfl h2
 cases b <;> simp [behindInMarks,e1,e2]
theorem pe_cmpR {op:CmpOp} {r:R2} (ho:OpR X (compareOp op) r) (ha:PE X a ta) (hb:PE X b tb) (hm:behindInMarks op b=false):PE X (.Compare a [op] [b] pos) (tOp r ta tb):=by
 intro pins s σ H Q I h
 exact wpAny_Compare1 (binT ha hb I h fun v u s2 x y H2 I2 rx ry q=>ho pins s2 σ H2 x y v u Q I2 rx ry q) hm
def tTest (t:TE):TT:=fun σ H Q=>t σ H fun x H'=>∃ k,x=.bl k/\Q k H'
theorem pt_cmpR {op:CmpOp} {r:R2} (ho:OpR X (compareOp op) r) (ha:PE X a ta) (hb:PE X b tb) (hm:behindInMarks op b=false):PT X (.Compare a [op] [b] pos) (tTest (tOp r ta tb)):=by
 intro pins s σ H Q I h
 refine wpAny_isTrue_Compare1 (thn (ha pins s σ H _ I h) fun v s1 ⟨x,H1,I1,r1,q1⟩=>thn (hb pins s1 σ H1 _ I1 q1) fun u s2 ⟨y,H2,I2,r2,q2⟩=>
  thn (ho pins s2 σ H2 x y v u _ I2 r1 r2 q2) fun c s3 ⟨z,H3,I3,r3,k,e,q3⟩=>?_) hm
 subst e
 cases r3
 exact wpAny_truthy_bool ⟨H3,I3,q3⟩
def tChain (r r':R2) (ta tb tc:TE):TE:=fun σ H Q=>ta σ H fun x H1=>tb σ H1 fun y H2=>r x y H2 fun z H3=>∃ k,z=.bl k /\
 (if k=true then tc σ H3 fun w' H4=>r' y w' H4 Q else Q (.bl false) H3)
theorem pe_chain {op op':CmpOp} {r r':R2} (ho:OpR X (compareOp op) r) (ho':OpR X (compareOp op') r') (ha:PE X a ta) (hb:PE X b tb) (hc:PE X c tc)
  (hm:lastMarks [op,op'] [b,c]=false:=by with_unfolding_all rfl):PE X (.Compare a [op,op'] [b,c] pos) (tChain r r' ta tb tc):=by
 intro pins s σ H Q I h
 refine Compare_chain (thn (ha pins s σ H _ I h) fun v s1 ⟨x,H1,I1,r1,q1⟩=>chain_link (thn (hb pins s1 σ H1 _ I1 q1) fun u s2 ⟨y,H2,I2,r2,q2⟩=>
  thn (ho pins s2 σ H2 x y v u _ I2 r1 r2 q2) fun d s3 ⟨z,H3,I3,r3,k,e,q3⟩=>?_)) hm
 subst e
 cases r3
 refine wpAny_truthy_bool ?_
 cases k with
 | false=>exact ite_ff ⟨.bl false,H3,I3,rfl,q3⟩
 | true=>exact ite_tt (chain_last (thn (hc pins s3 σ H3 _ I3 q3) fun w' s4 ⟨z',H4,I4,r4,q4⟩=>ho' pins s4 σ H4 y z' u w' Q I4 r2 r4 q4))
theorem pt_chain {op op':CmpOp} {r r':R2} (ho:OpR X (compareOp op) r) (ho':OpR X (compareOp op') r') (ha:PE X a ta) (hb:PE X b tb) (hc:PE X c tc)
  (hm:lastMarks [op,op'] [b,c]=false:=by with_unfolding_all rfl):PT X (.Compare a [op,op'] [b,c] pos) (tTest (tChain r r' ta tb tc)):=by
 intro pins s σ H Q I h
 refine isTrue_chain (thn (ha pins s σ H _ I h) fun v s1 ⟨x,H1,I1,r1,q1⟩=>test_link (thn (hb pins s1 σ H1 _ I1 q1) fun u s2 ⟨y,H2,I2,r2,q2⟩=>
  thn (ho pins s2 σ H2 x y v u _ I2 r1 r2 q2) fun d s3 ⟨z,H3,I3,r3,k,e,q3⟩=>?_)) hm
 subst e
 cases r3
 refine wpAny_truthy_bool ?_
 cases k with
 | false=>
  obtain ⟨k',e',q'⟩:=q3
  cases e'
  exact ite_ff ⟨H3,I3,q'⟩
 | true=>
  refine ite_tt (test_last (thn (hc pins s3 σ H3 _ I3 q3) fun w' s4 ⟨z',H4,I4,r4,q4⟩=>thn (ho' pins s4 σ H4 y z' u w' _ I4 r2 r4 q4) fun d' s5 ⟨z2,H5,I5,r5,k2,e2,q5⟩=>?_))
  subst e2
  cases r5
  exact wpAny_truthy_bool ⟨H5,I5,q5⟩
def TruV (K:PySem.W.Frag) (x:V) (H:Hp) (k:Bool):Prop:=
 match x with
 | .non=>k=false
 | .bl b=>k=b
 | .int i=>k=(i != 0)
 | .str y=>y.length<=sizeLine/\k=((y.length:Int) != 0)
 | .byt y=>y.size<=sizeLine/\k=((y.size:Int) != 0)
 | .ref p=>(∃ xs,SqL K H p xs/\k = !xs.isEmpty)\/(∃ xs,SqT K H p xs/\k = !xs.isEmpty)\/∃ kvs,H p=some (.dK kvs)/\k = !kvs.isEmpty
 | _=>False
theorem isEmpty_kv {κ:Type} {kvs:List (κ × V)} {vs:List (κ × Value)} (r:KV kvs vs):(!vs.isEmpty) = !kvs.isEmpty:=by
 cases r <;> rfl
theorem isEmpty_of {xs:List V} {its:List Value} (r:Vals xs its):(!its.toArray.isEmpty) = !xs.isEmpty:=by
 cases r <;> simp
theorem line63:(sizeLine:Nat) < 2 ^ 63:=by rw [sizeLine_eq]; decide
theorem tru_ok:TruR X (fun x H Q=>∃ k,TruV X.K x H k/\Q k H):=by
 intro pins s σ H x v Q I rx h
 obtain ⟨k,e,q⟩:=h
 have hl:=line63
 have hs:sizeLine=16777216:=sizeLine_eq
 cases x with
 | non=>
  cases rx
  have e':k=false:=e
  subst e'
  exact truthy_none ⟨H,I,q⟩
 | bl b=>
  cases rx
  have e':k=b:=e
  subst e'
  exact wpAny_truthy_bool ⟨H,I,q⟩
 | int i=>
  obtain ⟨t,rfl⟩:=rx
  have e':k=(i != 0):=e
  subst e'
  exact PySem.P.truthy_int ⟨H,I,q⟩
 | str y=>
  obtain ⟨t,rfl⟩:=rx
  obtain ⟨hy,e'⟩:y.length<=sizeLine/\k=((y.length:Int) != 0):=e
  subst e'
  exact PySem.P.truthy_str (by (first|lia|omega)) ⟨H,I.tok _,q⟩
 | byt y=>
  obtain ⟨t,rfl⟩:=rx
  obtain ⟨hy,e'⟩:y.size<=sizeLine/\k=((y.size:Int) != 0):=e
  subst e'
  exact PySem.W.truthy_bytes (by (first|lia|omega)) ⟨H,I.tok _,q⟩
 | ref p=>
  cases rx
  have e':(∃ xs,SqL X.K H p xs/\k = !xs.isEmpty)\/(∃ xs,SqT X.K H p xs/\k = !xs.isEmpty)\/∃ kvs,H p=some (.dK kvs)/\k = !kvs.isEmpty:=e
  rcases e' with ⟨xs,hx,e'⟩ | ⟨xs,hx,e'⟩ | ⟨kvs,hx,e'⟩
  ·subst e'
   obtain ⟨its,r,pl,hz⟩:=I.list hx
   have hlen:=r.length
   exact wpAny_truthy_list pl.isList (by simp only [List.size_toArray]; (first|lia|omega)) ⟨H,I.tok _,by rw [isEmpty_of r]; exact q⟩
  ·subst e'
   obtain ⟨its,r,pl,hz⟩:=I.tuple hx
   have hlen:=r.length
   exact truthy_tuple pl (by simp only [List.size_toArray]; (first|lia|omega)) ⟨H,I.tok _,by rw [isEmpty_of r]; exact q⟩
  ·subst e'
   obtain ⟨hz,hS,vs,r,m⟩:kvs.length<=sizeLine/\(p == sysModules)=false/\∃ vs,KV kvs vs/\s.heap.DictOf (mixKind X.prog X.w) p vs:=I.hok p _ hx
   have hlen:kvs.length=vs.length:=Paired.length r
   exact wpAny_truthy_dict hS m (by (first|lia|omega)) ⟨H,I.tok _,by rw [isEmpty_kv r]; exact q⟩
 | _=>exact (show False from e).elim
theorem pt_truth (ha:PE X a ta) (he:∀ whole,isTrue a X.env whole=(do let v <- whole; standAt a.pos; holding [v] (truthy v))) :
  PT X a (fun σ H Q=>ta σ H fun x H'=>∃ k,TruV X.K x H' k/\Q k H'):=by
 intro pins s σ H Q I h
 exact isTrue_plain (thn (ha pins s σ H _ I h) fun v s1 ⟨x,H1,I1,r1,q1⟩=>tru_ok pins s1 σ H1 x v Q I1 r1 q1) (he _)
theorem op_add_str:OpR X (binaryOp .Add) (fun x y H Q=>∃ i j,x=.str i/\y=.str j/\i.length + j.length<=sizeLine/\Q (.str (i ++ j)) H):=by
 intro pins s σ H x y v u Q I rx ry h
 obtain ⟨i,j,rfl,rfl,hz,q⟩:=h
 obtain ⟨t,rfl⟩:=rx
 obtain ⟨t',rfl⟩:=ry
 exact add_str (fun t' tk=>⟨.str (i ++ j),H,I.tok _,⟨_,rfl⟩,q⟩) hz
theorem vals1 {x:V} {us:List Value} (r:Vals [x] us):∃ u,us=[u]/\RelV x u:=by
 cases r with
 | cons r1 r2=>cases r2; exact ⟨_,rfl,r1⟩
theorem vals2 {x y:V} {us:List Value} (r:Vals [x,y] us):∃ u w',us=[u,w']/\RelV x u/\RelV y w':=by
 cases r with
 | cons r1 r2=>
  cases r2 with
  | cons r3 r4=>cases r4; exact ⟨_,_,rfl,r1,r3⟩
theorem call_abs:CallR X (.builtin "abs") (fun xs H Q=>∃ i,xs=[.int i]/\Q (.int (if i < 0 then -i else i)) H):=by
 intro pins s σ H xs us Q I r h
 obtain ⟨i,rfl,q⟩:=h
 obtain ⟨u,rfl,t,rfl⟩:=vals1 r
 exact call_abs_int fun u tk=>⟨.int (if i < 0 then -i else i),H,I.tok _,⟨_,rfl⟩,q⟩
theorem call_max2 (hc:X.calm=true):CallR X (.builtin "max") (fun xs H Q=>∃ i j,xs=[.int i,.int j]/\Q (.int (if j > i then j else i)) H):=by
 intro pins s σ H xs us Q I r h
 obtain ⟨i,j,rfl,q⟩:=h
 obtain ⟨u,w',rfl,⟨t,rfl⟩,⟨t',rfl⟩⟩:=vals2 r
 refine max_two_ints (I.ok.hd hc) fun h' tk k=>⟨_,H,I.kept k,?_,q⟩
 by_cases hj:j > i
 ·rw [if_pos hj,if_pos hj]; exact ⟨_,rfl⟩
 ·rw [if_neg hj,if_neg hj]; exact ⟨_,rfl⟩
theorem call_min2 (hc:X.calm=true):CallR X (.builtin "min") (fun xs H Q=>∃ i j,xs=[.int i,.int j]/\Q (.int (if j < i then j else i)) H):=by
 intro pins s σ H xs us Q I r h
 obtain ⟨i,j,rfl,q⟩:=h
 obtain ⟨u,w',rfl,⟨t,rfl⟩,⟨t',rfl⟩⟩:=vals2 r
 refine min_two_ints (I.ok.hd hc) fun h' tk k=>⟨_,H,I.kept k,?_,q⟩
 by_cases hj:j < i
 ·rw [if_pos hj,if_pos hj]; exact ⟨_,rfl⟩
 ·rw [if_neg hj,if_neg hj]; exact ⟨_,rfl⟩
theorem call_int1:CallR X (.type "int") (fun xs H Q=>(∃ i,xs=[.int i]/\Q (.int i) H)\/∃ k,xs=[.bl k]/\Q (.int (if k then 1 else 0)) H):=by
 intro pins s σ H xs us Q I r h
 rcases h with ⟨i,rfl,q⟩ | ⟨k,rfl,q⟩
 ·obtain ⟨u,rfl,t,rfl⟩:=vals1 r
  exact call_int_int ⟨.int i,H,I,⟨_,rfl⟩,q⟩
 ·obtain ⟨u,rfl,r1⟩:=vals1 r
  cases r1
  exact call_int_bool ⟨.int (if k then 1 else 0),H,I.tok _,⟨_,rfl⟩,q⟩
theorem call_str_int:CallR X (.type "str") (fun xs H Q=>∃ i,xs=[.int i]/\i.natAbs.log2 < 1920/\Q (.str (toString i)) H):=by
 intro pins s σ H xs us Q I r h
 obtain ⟨i,rfl,hz,q⟩:=h
 obtain ⟨u,rfl,t,rfl⟩:=vals1 r
 exact PySem.P.str_of_int hz ⟨.str _,H,I.tok _,⟨_,rfl⟩,q⟩
end
structure ObjM (h:Heap) (x dx C:Addr) (mA:Str->Option Value):Prop where
 obj:h.get? x=some (PySem.W.instObj C dx)
 ns:h.Ns1 dx mA
 ne:dx ≠ x
theorem lookIn_ns {h:Heap} {dx:Addr} {mA:Str->Option Value} (n:h.Ns1 dx mA):∃ od,h.get? dx=some od/\∀ name,PySem.W.lookIn name od=some (mA name):=by
 obtain ⟨o,es,ep,ho,hd,hk,_,hm⟩:=n
 refine ⟨o,ho,fun name=>?_⟩
 have e:=hm name
 unfold nsFind findBy at e
 rw [<-Array.find?_toList] at e
 unfold PySem.W.lookIn
 rw [hd]
 dsimp only
 split
 ·rename_i y q
  rw [q] at e
  exact congrArg some e
 ·rename_i q
  rw [q] at e
  have a:es.toList.any (·.refKey)=false:=by
   rw [List.any_eq_false]
   intro y hy
   obtain ⟨z,t,hkey⟩:=hk y (Array.mem_toList_iff.mp hy)
   simp [DictEntry.refKey,hkey]
  have a':¬ es.toList.any (·.refKey)=true:=by rw [a]; exact Bool.false_ne_true
  rw [if_neg a']
  exact congrArg some e
theorem ObjM.look {h:Heap} {x dx C:Addr} {mA:Str->Option Value} (I:ObjM h x dx C mA):∃ od,PySem.W.InstAt h x (PySem.W.instObj C dx) C (some od)/\∀ name,PySem.W.lookIn name od=some (mA name):=
 let ⟨od,ho,hl⟩:=lookIn_ns I.ns
 ⟨od,⟨I.obj,rfl,rfl,ho⟩,hl⟩
section
variable {prog:Program} {w:World} {A:Around} {E:Value->Shared->Prop} {s:Shared} {K:PySem.W.Frag} {x dx C f:Addr} {mA:Str->Option Value} {name:Str} {v:Value}
end
theorem RelO.some_of {v:V} {o:Option Value} (r:RelO (some v) o):∃ u,o=some u/\RelV v u:=by
 cases o with
 | none=>exact (show False from r).elim
 | some u=>exact ⟨u,rfl,r⟩
section
variable {P:Program} {w:World} {H H':Hp} {h h':Heap} {a C dx:Addr} {fs fs':List (Str × V)}
theorem ins_get (hok:HOk P w H h) (e:H a=some (.ins C dx fs)):∃ mA,ObjM h a dx C mA/\(∀ f,RelO (fs.lookup f) (mA f))/\PySem.Within mA (fs.map (·.1))/\fs.length<=1000/\H dx=some (.own a):=by
 obtain ⟨d,z,ne,ob,mA,n,r,q⟩:=(show ObjOk P w H h a (.ins C dx fs) from hok a _ e)
 exact ⟨mA,⟨ob,n,ne⟩,r,q,z,d⟩
end
structure Cls (K:PySem.W.Frag) (C:Addr):Prop where
 pg:PySem.W.plainGet K C Str.empty=true
 hd:PySem.W.hasDictIn K C=true
 po:PySem.W.plainOver K C=true
 sa:PySem.W.findIn K (.ref C) "__setattr__"=some (some (.builtin "object.__setattr__"))
theorem Cls.get {K:PySem.W.Frag} {C:Addr} (c:Cls K C) (f:Str):PySem.W.plainGet K C f=true:=c.pg
section
variable {X:Cx} {pins:List (Addr × Obj)} {σ:St} {H:Hp} {s:Shared} {a C dx:Addr} {fs:List (Str × V)} {f:Str} {v:V} {A:Around} {E:Value->Shared->Prop}
end
section
variable {X:Cx} {o e value:Expr} {f:Str} {pos pos' tpos:Pos} {ta tv:TE}
end
section
variable {X:Cx} {pins:List (Addr × Obj)} {σ:St} {H:Hp} {s:Shared} {A:Around} {E:Value->Shared->Prop} {Q:Value->Shared->Prop} {c:Value} {b:Bool}
inductive TyOf (K:PySem.W.Frag) (H:Hp):V->Value->Prop where
 | non:TyOf K H .non (.type "NoneType")
 | bl (x:Bool):TyOf K H (.bl x) (.type "bool")
 | int (i:Int):TyOf K H (.int i) (.type "int")
 | str (x:Str):TyOf K H (.str x) (.type "str")
 | flt (x:UInt64):TyOf K H (.flt x) (.type "float")
 | lst {a:Addr} {xs:List V} (e:H a=some (.lst xs)):TyOf K H (.ref a) (.type "list")
 | frz {a:Addr} {o:Obj} {xs:List V} (e:H a=some (.frz o (.lst xs))):TyOf K H (.ref a) (.type "list")
 | tup {a:Addr} {xs:List V} (e:H a=some (.tup xs)):TyOf K H (.ref a) (.type "tuple")
 | dK {a:Addr} {kvs:List (Key × V)} (e:H a=some (.dK kvs)):TyOf K H (.ref a) (.type "dict")
 | dT {a:Addr} {kvs:List (List Key × V)} (e:H a=some (.dT kvs)):TyOf K H (.ref a) (.type "dict")
 | ins {a C dx:Addr} {fs:List (Str × V)} (e:H a=some (.ins C dx fs)) (cl:Cls K C) (ha:PySem.W.findIn K (.ref C) "__class__"=some (some (.builtin "object.__class__")))
   (hn:PySem.W.specialIn K (.builtin "object.__class__") "__get__"=some (some (.builtin "getset_descriptor.__get__"))) (htk:PySem.W.takesIn K (.builtin "object.__class__")=some true)
   (hm:PySem.W.mroIn K C (.type "object")=some true):TyOf K H (.ref a) (.ref C)
theorem isinst_ok {x:V} {u t:Value} (I:Inv X pins σ H s) (rx:RelV x u) (ty:TyOf X.K H x t) (e:PySem.W.kitOne X.K t c=some b) (h:∀ tk,Q (.bool b) { s with toks:=tk }) :
  wpAny (model X.prog X.w) A (call (.builtin "isinstance") [u,c]) Q E s:=by
 cases ty with
 | non=>cases (show u=Value.none from rx); exact PySem.W.kia_one PySem.W.kitx_none I.kIn True.intro e (fun z=>nomatch z) h
 | bl y=>cases (show u=Value.bool y from rx); exact PySem.W.kia_one PySem.W.kitx_bool I.kIn True.intro e (fun z=>nomatch z) h
 | int i=>obtain ⟨t,q⟩:=(show ∃ t,u=Value.int i t from rx); cases q; exact PySem.W.kia_one PySem.W.kitx_int I.kIn True.intro e (fun z=>nomatch z) h
 | str y=>obtain ⟨t,q⟩:=(show ∃ t,u=Value.str y t from rx); cases q; exact PySem.W.kia_one PySem.W.kitx_str I.kIn True.intro e (fun z=>nomatch z) h
 | flt y=>obtain ⟨t,q⟩:=(show ∃ t,u=Value.float y t from rx); cases q; exact PySem.W.kia_one PySem.W.kitx_float I.kIn True.intro e (fun z=>nomatch z) h
 | @lst a xs ea=>
  cases (show u=Value.ref a from rx)
  obtain ⟨_,_,n,_,h1⟩:=(show ObjOk X.prog X.w H s.heap a (.lst xs) from I.hok a _ ea)
  exact PySem.W.kia_one PySem.W.kitx_list I.kIn ⟨_,h1,rfl⟩ e (fun z=>nomatch z) h
 | @frz a ob xs ea=>
  cases (show u=Value.ref a from rx)
  obtain ⟨_,_,_,n,_,h1⟩:=(show ObjOk X.prog X.w H s.heap a (.frz ob (.lst xs)) from I.hok a _ ea)
  exact PySem.W.kia_one PySem.W.kitx_list I.kIn ⟨_,h1,rfl⟩ e (fun z=>nomatch z) h
 | @tup a xs ea=>
  cases (show u=Value.ref a from rx)
  obtain ⟨_,_,_,p,_⟩:=(show ObjOk X.prog X.w H s.heap a (.tup xs) from I.hok a _ ea)
  obtain ⟨o,h1,h2,_⟩:=p
  exact PySem.W.kia_one PySem.W.kitx_tuple I.kIn ⟨o,h1,h2⟩ e (fun z=>nomatch z) h
 | @dK a kvs ea=>
  cases (show u=Value.ref a from rx)
  obtain ⟨_,_,vs,_,p⟩:=(show ObjOk X.prog X.w H s.heap a (.dK kvs) from I.hok a _ ea)
  obtain ⟨o,es,ep,h1,h2,_⟩:=p
  exact PySem.W.kia_one PySem.W.kitx_dict I.kIn ⟨o,h1,h2.1⟩ e (fun z=>nomatch z) h
 | @dT a kvs ea=>
  cases (show u=Value.ref a from rx)
  obtain ⟨_,_,xs,_,o,es,ep,h1,h2,_⟩:=(show ObjOk X.prog X.w H s.heap a (.dT kvs) from I.hok a _ ea)
  exact PySem.W.kia_one PySem.W.kitx_dict I.kIn ⟨o,h1,h2.1⟩ e (fun z=>nomatch z) h
 | @ins a C dx fs ea cl ha hn htk hm=>
  cases (show u=Value.ref a from rx)
  obtain ⟨mA,O,_⟩:=ins_get I.hok ea
  obtain ⟨od,J,_⟩:=O.look
  exact PySem.W.kia_one (PySem.W.kitx_own (cl.get _) cl.hd ha hn htk hm) I.kIn J e (fun z=>nomatch z) h
end
structure Room (k:Nat) (A:Around):Prop where
 hd:A.handled=none
 dp:A.depth + 3 * k + 5 < recursionLimit
 un:A.units + 16 * k + 200 < cLine
 gd:A.guards=some []:=by rfl
theorem Room.mono {j k:Nat} {A:Around} (r:Room k A) (h:j<=k):Room j A:=⟨r.hd,by have:=r.dp; (first|lia|omega),by have:=r.un; (first|lia|omega),r.gd⟩
theorem Room.deeper {k:Nat} {A:Around} (r:Room (k + 1) A) (env:Env):Room k (A.deeper env):=
 ⟨r.hd,by have:=r.dp; show A.depth + 1 + 3 * k + 5 < _; (first|lia|omega),by have:=r.un; show A.units + 3 + 16 * k + 200 < _; (first|lia|omega),r.gd⟩
theorem Room.depth {k:Nat} {A:Around} (r:Room k A):A.depth < recursionLimit:=by have:=r.dp; (first|lia|omega)
theorem Room.units {k:Nat} {A:Around} (r:Room k A):A.units + 64 < cLine:=by have:=r.un; (first|lia|omega)
def tNil:TA:=fun _ H Q=>Q [] H
def tCons (ta:TE) (tr:TA):TA:=fun σ H Q=>ta σ H fun x H1=>tr σ H1 fun xs H2=>Q (x :: xs) H2
section
variable {X:Cx} {e:Expr} {es:List Expr} {te:TE} {t:TA} {pos:Pos}
theorem pa_nil:PA X [] tNil:=fun _ _ _ _ H Q I h=>Calls.spliced_nil ⟨[],H,I,.nil,h⟩
theorem pa_cons (ha:PE X e te) (hr:PA X es t) (hs:starEach (e :: es) X.env=(false,eval e X.env) :: starEach es X.env:=by rfl):PA X (e :: es) (tCons te t):=by
 intro pos pins s σ H Q I h
 rw [hs]
 show wpAny _ _ (spliced ((false,eval e X.env) :: backTo pos (starEach es X.env))) _ _ s
 refine Calls.spliced_cons (thn (ha pins s σ H _ I h) fun u s1 ⟨x,H1,I1,r1,q1⟩=>?_)
 exact thn (hr pos pins s1 σ H1 _ I1 q1) fun us s2 ⟨xs,H2,I2,r2,q2⟩=>⟨x :: xs,H2,I2,.cons r1 r2,q2⟩
def tTup (t:TA):TE:=fun σ H Q=>t σ H fun xs H1=>xs.length<=sizeLine/\∀ p,H1 p=none->Q (.ref p) (upd H1 p (.tup xs))
def tLst (t:TA):TE:=fun σ H Q=>t σ H fun xs H1=>xs.length<=sizeLine/\∀ p,H1 p=none->Q (.ref p) (upd H1 p (.lst xs))
theorem pe_tup {x1} (h:PA X es t):PE X (.Tuple es x1 pos) (tTup t):=by
 intro pins s σ H Q I hq
 refine wpAny_Tuple_spliced (thn (h pos pins s σ H _ I hq) fun us s1 ⟨xs,H1,I1,r,z,q⟩=>⟨by rw [<-r.length]; exact z,?_⟩)
 have hf:H1 s1.heap.objs.size=none:=I1.hok.fresh (Nat.le_refl _)
 refine ⟨.ref s1.heap.objs.size,upd H1 s1.heap.objs.size (.tup xs),I1.laid (t':=s1.toks) (fun b u e=>Heap.get?_push_of_some _ e) (Nat.le_refl _) ?_,rfl,q _ hf⟩
 exact ⟨z,us,r,⟨_,Heap.get?_push_size _ rfl,rfl,_,rfl⟩,TupD.new rfl rfl⟩
theorem pe_lst (h:PA X es t):PE X (.List es pos) (tLst t):=by
 intro pins s σ H Q I hq
 refine wpAny_List_spliced (thn (h pos pins s σ H _ I hq) fun us s1 ⟨xs,H1,I1,r,z,q⟩=>⟨by rw [<-r.length]; exact z,?_⟩)
 have hf:H1 s1.heap.objs.size=none:=I1.hok.fresh (Nat.le_refl _)
 refine ⟨.ref s1.heap.objs.size,upd H1 s1.heap.objs.size (.lst xs),I1.laid (t':=s1.toks) (fun b u e=>Heap.get?_push_of_some _ e) (Nat.le_refl _) ?_,rfl,q _ hf⟩
 exact ⟨z,us,0,r,Heap.get?_push_size _ rfl⟩
end
abbrev Sp:=List V->Hp->VK->XK->Prop
abbrev CXT:=List Env->Hp->Shared->XK->Value->Shared->Prop
structure Env0 (P:Program) (w:World) (K:PySem.W.Frag) (mg:Str->Option Value) (base:Heap) (A:Around) (outer:List Env) (s:Shared) (H:Hp):Prop where
 frames:A.frames=some outer
 mod:Mod K mg base
 bs:∀ b o,base.get? b=some o->s.heap.get? b=some o/\H b=none
 bsz:base.objs.size<=s.heap.objs.size
 funs:s.heap.FunFrames base outer
 frf:∀ b ∈ frs outer,H b=none
 hok:HOk P w H s.heap
 bare:AllBare s.gens
def CE (outer:List Env) (P:Program) (w:World) (H:Hp) (s:Shared) (Q:VK) (u:Value) (s':Shared):Prop:=
 ∃ v H',s'.os=s.os/\AllBare s'.gens/\Un (frs outer) [] H H' s.heap s'.heap/\HOk P w H' s'.heap/\RelV v u/\Q v H'
def CR (CX:CXT) (outer:List Env) (P:Program) (w:World) (H:Hp) (s:Shared) (Q:VK) (E:XK) (r:Result) (s':Shared):Prop:=
 match r with
 | .ok (.ret u)=>CE outer P w H s Q u s'
 | .ok _=>False
 | .error e=>CX outer H s E e s'
structure FnOk (P:Program) (w:World) (K:PySem.W.Frag) (mg:Str->Option Value) (base:Heap) (CX:CXT) (k:Nat) (f:Addr) (fd:FuncData) (ps:List Str) (sp:Sp):Prop where
 len:∀ vs H Q E,sp vs H Q E->vs.length=ps.length
 run:∀ (A:Around) (outer:List Env) (s:Shared) (H:Hp) (args:Args) (us:List Value) (vs:List V) (Q:VK) (E:XK),Room k A->Env0 P w K mg base A outer s H->BindsTo s fd args (ps.zip us)->Vals vs us->sp vs H Q E ->
  codeAny (model P w) A (.call (.ref f) args) (CR CX outer P w H s Q E) s
section
variable {X:Cx} {pins:List (Addr × Obj)} {σ:St} {H:Hp} {s s':Shared}
theorem Inv.env0 (I:Inv X pins σ H s):Env0 X.prog X.w X.K X.mg X.base X.A X.stack s H:=
 ⟨I.ok.frames,I.ok.mod,I.bs,Nat.le_trans I.ok.bsz I.sz,I.stack,I.stkFree,I.hok,I.bare⟩
theorem Inv.after {Q:VK} {u:Value} (I:Inv X pins σ H s) (h:CE X.stack X.prog X.w H s Q u s'):EP X pins σ Q u s':=by
 obtain ⟨v,H',os,bare,un,hok,r,q⟩:=h
 obtain ⟨hh,g,d,t,os'⟩:=s'
 obtain rfl:os'=s.os:=os
 exact ⟨v,H',I.call (h':=hh) (g':=g) (d':=d) (t':=t) (ch:=[]) un hok bare (fun b z=>absurd z (by simp)),r,q⟩
end
def tCall (sp:Sp) (dvs:List V) (E:XK) (t:TA):TE:=fun σ H Q=>t σ H fun vs H1=>sp (vs ++ dvs) H1 Q E
def Binds (K:PySem.W.Frag) (fd:FuncData) (ps:List Str) (ds:List Value):Prop:=
 ∀ (s:Shared) (us:List Value),K.In s.heap->(us ++ ds).length=ps.length->BindsTo s fd ⟨us,[]⟩ (ps.zip (us ++ ds))
theorem Binds.all {K:PySem.W.Frag} {fd:FuncData} {ps:List Str} (h:∀ us:List Value,us.length=ps.length->bindArgs fd ⟨us,[]⟩=pure (ps.zip us)):Binds K fd ps []:=fun s us _ hl=>by
 rw [List.append_nil] at hl ⊢
 exact .of_eq (h us hl)
def Passes (CX:CXT) (X:Cx) (E:XK):Prop:=∀ (pins:List (Addr × Obj)) (σ:St) (H:Hp) (s:Shared) (e:Value) (s':Shared),Inv X pins σ H s->CX X.stack H s E e s'->X.xe e s'
section
variable {X:Cx} {CX:CXT} {k:Nat} {f C:Addr} {fd:FuncData} {ps:List Str} {sp:Sp} {dvs:List V} {ds:List Value} {E:XK} {x m:Str} {p pos apos:Pos} {e o:Expr} {es:List Expr} {ta:TE} {t:TA}
theorem run_fn {pins:List (Addr × Obj)} {σ:St} {H:Hp} {s:Shared} {Q:VK} {us:List Value} {vs:List V} (F:FnOk X.prog X.w X.K X.mg X.base CX k f fd ps sp) (hr:Room k X.A) (hb:Binds X.K fd ps ds) (hd:Vals dvs ds) (hx:Passes CX X E)
  (I:Inv X pins σ H s) (r:Vals vs us) (h:sp (vs ++ dvs) H Q E):wpAny (model X.prog X.w) X.A (call (.ref f) us) (EP X pins σ Q) X.xe s:=by
 have r2:Vals (vs ++ dvs) (us ++ ds):=r.append hd
 have hl:(us ++ ds).length=ps.length:=by rw [<-r2.length]; exact F.len _ _ _ _ h
 refine wpAny_call (codeAny_mono (F.run X.A X.stack s H ⟨us,[]⟩ (us ++ ds) (vs ++ dvs) Q E hr I.env0 (hb s us I.kIn hl) r2 h) fun r s' hq=>?_)
 cases r with
 | error e=>exact hx pins σ H s e s' I hq
 | ok fl=>
  cases fl with
  | ret u=>exact I.after hq
  | next=>exact False.elim hq
  | brk=>exact False.elim hq
  | cont=>exact False.elim hq
theorem pe_call (F:FnOk X.prog X.w X.K X.mg X.base CX k f fd ps sp) (hr:Room k X.A) (hg:Gl X x) (hm:X.mg x=some (.ref f)) (hk:PySem.W.keepIn X.K (.ref f)=true) (hb:Binds X.K fd ps ds) (hd:Vals dvs ds) (hx:Passes CX X E)
  (ha:PA X (e :: es) t) (hdb:(x == ("__debug__":Str))=false:=by decide) (he:starEach (e :: es) X.env=(false,eval e X.env) :: starEach es X.env:=by rfl) (hpl:(backTo pos (starEach es X.env)).any (·.1)=false:=by rfl) :
  PE X (.Call (.Name x p) (e :: es) [] pos) (tCall sp dvs E t):=by
 intro pins s σ H Q I h
 refine wpAny_Call_Name_kw (ld_glob I hg hm ?_ hdb)
 refine PySem.W.callWith_K (h₀:=X.base) I.ok.mod.kin hk (thn (ha pos pins s σ H _ I h) fun us s1 ⟨vs,H1,I1,r,q⟩=>⟨I1.kIn,?_⟩) he hpl
 exact run_fn F hr hb hd hx I1 r q
end
section
variable {X:Cx} {CX:CXT} {k:Nat} {f C:Addr} {fd:FuncData} {ps ks:List Str} {sp:Sp} {E:XK} {x m:Str} {p pos apos kpos:Pos} {e o:Expr} {es:List Expr} {kws:List Keyword} {te ta:TE} {t tk:TA} {nm:Option Str}
variable {g:List Value->List Value->List Value} {gV:List V->List V->List V}
end
structure FnScope (N P:List Str) (sc:Scope):Prop where
 kind:sc.kind=.function
 co:sc.isCoroutine=false
 gen:sc.isGenerator=false
 nd:N.Nodup
 pre:N.take P.length=P
 par:∀ x ∈ P,sc.names.lookup x=some .local\/sc.names.lookup x=some .cell
 nofree:∀ y ∈ sc.names,y.2 ≠ .free
theorem bindL_out {kindOf:Str->Option NameKind} {x:Str}:∀ {binds:List (Str × Value)} {m:Str->Option Value},(∀ v,(x,v) ∉ binds)->bindL kindOf binds m x=m x
 | [],_,_=>rfl
 | (n,v) :: r,m,h=>by
  unfold bindL
  rw [bindL_out fun w hw=>h w (List.mem_cons_of_mem _ hw)]
  split
  ·have:x ≠ n:=by rintro rfl; exact h v List.mem_cons_self
   simp [this]
  ·rfl
theorem bindC_out {kindOf:Str->Option NameKind} {x:Str}:∀ {binds:List (Str × Value)} {m:Str->Option Value},(∀ v,(x,v) ∉ binds)->bindC kindOf binds m x=m x
 | [],_,_=>rfl
 | (n,v) :: r,m,h=>by
  unfold bindC
  rw [bindC_out fun w hw=>h w (List.mem_cons_of_mem _ hw)]
  split
  ·rfl
  ·have:x ≠ n:=by rintro rfl; exact h v List.mem_cons_self
   simp [this]
theorem bindL_get {kindOf:Str->Option NameKind} {x:Str} {v:Value}:∀ {P:List Str} {vs:List Value} {i:Nat} {m:Str->Option Value},P.Nodup->P[i]? = some x->vs[i]? = some v->kindOf x=some .local ->
  bindL kindOf (P.zip vs) m x=some v
 | [],_,_,_,_,h,_,_=>by simp at h
 | _ :: _,[],_,_,_,_,h,_=>by simp at h
 | p :: P,w :: vs,0,m,nd,h1,h2,hk=>by
  simp at h1 h2; subst h1; subst h2
  show bindL kindOf ((p,w) :: P.zip vs) m p=_
  unfold bindL
  rw [bindL_out fun v hv=>(List.nodup_cons.mp nd).1 (List.of_mem_zip hv).1,if_pos hk]
  simp
 | p :: P,w :: vs,i + 1,m,nd,h1,h2,hk=>by
  show bindL kindOf ((p,w) :: P.zip vs) m x=_
  unfold bindL
  exact bindL_get (i:=i) (List.nodup_cons.mp nd).2 (by simpa using h1) (by simpa using h2) hk
theorem bindC_get {kindOf:Str->Option NameKind} {x:Str} {v:Value}:∀ {P:List Str} {vs:List Value} {i:Nat} {m:Str->Option Value},P.Nodup->P[i]? = some x->vs[i]? = some v->kindOf x ≠ some .local ->
  bindC kindOf (P.zip vs) m x=some v
 | [],_,_,_,_,h,_,_=>by simp at h
 | _ :: _,[],_,_,_,_,h,_=>by simp at h
 | p :: P,w :: vs,0,m,nd,h1,h2,hk=>by
  simp at h1 h2; subst h1; subst h2
  show bindC kindOf ((p,w) :: P.zip vs) m p=_
  unfold bindC
  rw [bindC_out fun v hv=>(List.nodup_cons.mp nd).1 (List.of_mem_zip hv).1,if_neg hk]
  simp
 | p :: P,w :: vs,i + 1,m,nd,h1,h2,hk=>by
  show bindC kindOf ((p,w) :: P.zip vs) m x=_
  unfold bindC
  exact bindC_get (i:=i) (List.nodup_cons.mp nd).2 (by simpa using h1) (by simpa using h2) hk
def start (N:List Str) (vs:List V):St:=vs.map some ++ List.replicate (N.length - vs.length) none
def cxOf (CX:CXT) (P:Program) (w:World) (K:PySem.W.Frag) (mg:Str->Option Value) (base:Heap) (N:List Str) (qual:Str) (scope:Scope) (f:Addr) (cd:Value) (A:Around) (outer:List Env) (s:Shared) (H:Hp) (E:XK):Cx where
 prog:=P
 w:=w
 K:=K
 mg:=mg
 base:=base
 A:=A.deeper (envOfC qual scope s.heap.objs.size f cd)
 N:=N
 s₀:=s
 H₀:=H
 env:=envOfC qual scope s.heap.objs.size f cd
 outer:=outer
 stack:=envOfC qual scope s.heap.objs.size f cd :: outer
 ex:=[]
 calm:=true
 fn:=fun _=>true
 pn:=[]
 xe:=fun e s'=>wpAny (model P w) (A.deeper (envOfC qual scope s.heap.objs.size f cd)) (leaving (envOfC qual scope s.heap.objs.size f cd) e) (fun _ s''=>CX outer H s E e s'') (fun e' s''=>CX outer H s E e' s'') s'
theorem cell_has {sc:Scope} {n:Nat} {x:Str} (h:sc.names.lookup x=some .cell):∃ c,(cellsFrom n sc.names []).lookup x=some c:=by
 have q:=PySem.W.cellsFrom_some sc.names n [] (.inl h)
 exact Option.isSome_iff_exists.mp q
theorem inv_start {CX:CXT} {P:Program} {w:World} {K:PySem.W.Frag} {mg:Str->Option Value} {base:Heap} {N ps:List Str} {qual:Str} {scope:Scope} {f:Addr} {cd:Value} {A:Around} {outer:List Env} {s s1:Shared} {H:Hp} {E:XK} {us:List Value} {vs:List V}
  (S:FnScope N ps scope) (hd:A.handled=none) (e0:Env0 P w K mg base A outer s H) (hl:vs.length=ps.length) (r:Vals vs us)
  (x:InCallC s s.heap.objs.size (bindL (envOfC qual scope s.heap.objs.size f cd).kindOf (ps.zip us) fun _=>none) (cellsFrom (s.heap.objs.size + 1) scope.names []) (bindC (envOfC qual scope s.heap.objs.size f cd).kindOf (ps.zip us) fun _=>none) s1) :
  Inv (cxOf CX P w K mg base N qual scope f cd A outer s H E) [] (start N vs) H s1:=by
 have hpl:ps.length<=N.length:=by have:=congrArg List.length S.pre; rw [List.length_take] at this; (first|lia|omega)
 obtain ⟨h1,tk,rfl,hk⟩:=x.done
 have noA:∀ b:Addr,b ∉ (cxOf CX P w K mg base N qual scope f cd A outer s H E).ex:=fun b z=>absurd (show b ∈ ([]:List Addr) from z) (by simp)
 refine ⟨⟨e0.mod,S.kind,rfl,rfl,Nat.le_refl _,fun y z c h1 h2=>?_,fun y hy=>?_,fun y c _ h=>?_,fun _=>hd,Around.frames_deeper e0.frames,.inr ⟨rfl,rfl⟩,fun b z=>absurd z (noA b),e0.bs,e0.bsz,fun b _ _=>noA b,fun b z=>absurd z (noA b),e0.funs,e0.frf⟩,
  rfl,e0.bare,Un.kept hk,⟨_,x.toInCall.ns,fun i y v h1 h2 h3=>?_⟩,fun y c h=>⟨_,x.cell y c h⟩,e0.hok.fresh (Nat.le_refl _),fun y c h=>?_,fun p hp=>absurd (show p ∈ ([]:List (Addr × Obj)) from hp) (by simp),e0.hok.kept hk,?_⟩
 ·exact name_of_addr x.apart (PySem.mem_of_lookup h1) (PySem.mem_of_lookup h2)
 ·have hy:scope.names.lookup y=some .cell\/scope.names.lookup y=some .free:=hy
  rcases hy with hy | hy
  ·exact cell_has hy
  ·exact absurd rfl (S.nofree _ (PySem.mem_of_lookup hy))
 ·exact Nat.le_of_lt (x.above y c (PySem.mem_of_lookup h))
 ·have hi:i < vs.length:=by
   unfold start at h2
   by_cases hi:i < vs.length
   ·exact hi
   ·rw [List.getElem?_append_right (by simpa using hi)] at h2
    rw [List.getElem?_replicate] at h2
    split at h2 <;> cases h2
  have ha:vs[i]? = some v:=by
   unfold start at h2
   rw [List.getElem?_append_left (by simpa using hi),List.getElem?_map] at h2
   cases e:vs[i]? with
   | none=>rw [e] at h2; cases h2
   | some a=>rw [e] at h2; cases h2; rfl
  obtain ⟨u,hu,rv⟩:=r.get ha
  have hp:ps[i]? = some y:=by
   rw [<-S.pre,List.getElem?_take_of_lt (by (first|lia|omega))]; exact h1
  have ndP:ps.Nodup:=by rw [<-S.pre]; exact S.nd.sublist (List.take_sublist _ _)
  refine ⟨u,rv,?_⟩
  rcases S.par y (List.mem_of_getElem? hp) with k | k
  ·exact .inl ⟨k,bindL_get ndP hp hu k⟩
  ·obtain ⟨c,e⟩:=cell_has (n:=s.heap.objs.size + 1) k
   refine .inr ⟨.inl k,c,e,?_⟩
   have q:=x.cell y c e
   rw [bindC_get ndP hp hu (by show scope.names.lookup y ≠ _; rw [k]; decide)] at q
   exact q
 ·exact e0.hok.fresh (Nat.le_of_lt (x.above y c (PySem.mem_of_lookup h)))
 ·unfold start
  show _=N.length
  rw [List.length_append,List.length_map,List.length_replicate]
  (first|lia|omega)
theorem fn_of {CX:CXT} {P:Program} {w:World} {K:PySem.W.Frag} {mg:Str->Option Value} {base:Heap} {k:Nat} {f:Addr} {name qual:Str} {params:Arguments} {body:List Stmt} {scope:Scope} {dV kV doc pm cdv ct oc:Value} {an od:Option Addr}
  {osl:Array (Option Value)} {N ps:List Str} {sp:Sp} (lk:K.lookup f=some ⟨oc,od,.func (PySem.W.fnOf name qual params body scope dV kV doc pm an cdv ct),osl⟩) (hcd:PySem.W.codeIn K cdv qual=true) (S:FnScope N ps scope)
  (len:∀ vs H Q E,sp vs H Q E->vs.length=ps.length)
  (hbody:∀ (A:Around) (outer:List Env) (s:Shared) (H:Hp) (vs:List V) (Q:VK) (E:XK),Room k (A.deeper (envOfC qual scope s.heap.objs.size f cdv))->sp vs H Q E ->
   ∃ t,PSs (cxOf CX P w K mg base N qual scope f cdv A outer s H E) body t/\t { nx:=fun _ H'=>Q .non H',rt:=Q } (start N vs) H) :
  FnOk P w K mg base CX (k + 1) f (PySem.W.fnOf name qual params body scope dV kV doc pm an cdv ct) ps sp:=by
 refine ⟨len,fun A outer s H args us vs Q E hr e0 hb r hsp=>?_⟩
 have hl:=len _ _ _ _ hsp
 have KX:K.In s.heap:=e0.mod.kin.keeps fun b o e=>(e0.bs b o e).1
 have lim:s.heap.NoLimit:=e0.mod.nolimit.keeps fun b o e=>(e0.bs b o e).1
 have hkind:∀ y ∈ ps.zip us,scope.names.lookup y.1=some .local\/(scope.names.lookup y.1=some .cell/\((cellsFrom (s.heap.objs.size + 1) scope.names []).lookup y.1).isSome=true):=fun ⟨n,v⟩ hy=>by
  rcases S.par n (List.of_mem_zip hy).1 with q | q
  ·exact .inl q
  ·exact .inr ⟨q,PySem.W.cellsFrom_some _ _ _ (.inl q)⟩
 refine codeAny_call_function hr.depth (KX _ _ lk) rfl S.co S.gen rfl (PySem.W.codeRec_of KX hcd) (hb _ _ _ _ ?_)
 refine wpAny_newFunctionEnv_cells S.kind hkind fun env he s1 x=>?_
 subst he
 refine ⟨lim.keeps x.toInCall.keep,codeAny_func ?_⟩
 obtain ⟨t,ht,hq⟩:=hbody A outer s H vs Q E (hr.deeper _) hsp
 have I:Inv (cxOf CX P w K mg base N qual scope f cdv A outer s H E) [] (start N vs) H s1:=inv_start S hr.hd e0 hl r x
 refine wpAny_mono (ht [] s1 (start N vs) H _ I hq) (fun fl s' hs=>?_) fun e s' hs=>hs
 have fin:∀ {σ':St} {H':Hp} {v:V} {u:Value},Inv (cxOf CX P w K mg base N qual scope f cdv A outer s H E) [] σ' H' s'->RelV v u->Q v H'->CE outer P w H s Q u s':=
  fun {σ' H' v u} J rv q=>⟨v,H',J.os,J.bare,J.base,J.hok,rv,q⟩
 cases fl with
 | ret u=>
  obtain ⟨v,σ',H',J,rv,q⟩:=hs
  exact fin J rv q
 | next=>
  obtain ⟨σ',H',J,q⟩:=hs
  exact fin (v:=V.non) (u:=Value.none) J rfl q
 | brk=>
  obtain ⟨_,_,_,q⟩:=hs
  exact False.elim q
 | cont=>
  obtain ⟨_,_,_,q⟩:=hs
  exact False.elim q
section
variable {X:Cx} {x:Str} {p pos:Pos} {e:Expr} {es:List Expr} {t:TA} {id T:String} {r:List V->Hp->VK->Prop}
def tCB (r:List V->Hp->VK->Prop) (t:TA):TE:=fun σ H Q=>t σ H fun vs H1=>r vs H1 Q
theorem pe_callB (hc:CallR X (.builtin id) r) (hg:Gl X x) (hm:X.mg x=none) (hv:bootBuiltins x=some (.builtin id)) (ha:PA X (e :: es) t) (hn:x ≠ "__name__":=by decide) (hdb:(x == ("__debug__":Str))=false:=by decide)
  (he:starEach (e :: es) X.env=(false,eval e X.env) :: starEach es X.env:=by rfl) (hpl:(backTo pos (starEach es X.env)).any (·.1)=false:=by rfl):PE X (.Call (.Name x p) (e :: es) [] pos) (tCB r t):=by
 intro pins s σ H Q I h
 refine wpAny_Call_Name_kw (ld_blt I hg hm hv ?_ hn hdb)
 exact PyProof.Rows.callWith_builtin1 (thn (ha pos pins s σ H _ I h) fun us s1 ⟨vs,H1,I1,r1,q1⟩=>hc pins s1 σ H1 vs us Q I1 r1 q1) he hpl
theorem pe_callTy (hc:CallR X (.type T) r) (hg:Gl X x) (hm:X.mg x=none) (hv:bootBuiltins x=some (.type T)) (ha:PA X (e :: es) t) (hn:x ≠ "__name__":=by decide) (hdb:(x == ("__debug__":Str))=false:=by decide)
  (he:starEach (e :: es) X.env=(false,eval e X.env) :: starEach es X.env:=by rfl) (hpl:(backTo pos (starEach es X.env)).any (·.1)=false:=by rfl):PE X (.Call (.Name x p) (e :: es) [] pos) (tCB r t):=by
 intro pins s σ H Q I h
 refine wpAny_Call_Name_kw (ld_blt I hg hm hv ?_ hn hdb)
 exact PyProof.Rows.callWith_type1 (thn (ha pos pins s σ H _ I h) fun us s1 ⟨vs,H1,I1,r1,q1⟩=>hc pins s1 σ H1 vs us Q I1 r1 q1) he hpl
end
end L2
namespace HT
open PySem PyProof.Rows
section
open PySem.SeqAt
open PySem.AutoSeq1 (wpAny_loadPart')
open PySem.MeetsSeq PySem.MeetsSeq2 PySem.MeetsSeq3
end
section
variable {prog:Program} {w:World} {A:Around} {E:Value->Shared->Prop} {s:Shared}
theorem cat_tup {t b:Addr} {vs ws:List Value} {Q:Value->Shared->Prop} (ht:IsTup s.heap t vs.toArray) (hb:IsTup s.heap b ws.toArray) (hv:vs ≠ [])
  (h1:ws=[]->Q (.ref t) s) (h2:ws ≠ []->Q (.ref s.heap.objs.size) { s with heap:=s.heap.push { cls:=.type "tuple",data:=.seq (vs ++ ws).toArray } })
  (hsz:vs.length + ws.length<=sizeLine):wpAny (model prog w) A (binaryOp .Add (.ref t) (.ref b)) Q E s:=by
 obtain ⟨⟨cls,dd,data,sl⟩,ho,hc,n,hd⟩:=id ht
 obtain ⟨⟨cls2,dd2,data2,sl2⟩,ho2,hc2,n2,hd2⟩:=id hb
 simp only at hc hd hc2 hd2
 subst hc hd hc2 hd2
 have e:vs.toArray ++ ws.toArray=(vs ++ ws).toArray:=by simp
 by_cases hw:ws=[]
 ·exact concat_meets ⟨_,ho,rfl⟩ ⟨_,ho2,rfl⟩ noFill_tuple_add seq_tuple_add PySem.F.slot_tuple_add PySem.F.entry_tuple_add (PySem.F.args_tuple_add_2 _ _)
   (tuple_addW1 t b vs.toArray ws.toArray n n2 dd dd2 sl sl2 (by simpa using hv) (by simp [hw])) ⟨ho,ho2,h1 hw⟩
 ·refine concat_meets ⟨_,ho,rfl⟩ ⟨_,ho2,rfl⟩ noFill_tuple_add seq_tuple_add PySem.F.slot_tuple_add PySem.F.entry_tuple_add (PySem.F.args_tuple_add_2 _ _)
   (tuple_addW2 t b vs.toArray ws.toArray n n2 dd dd2 sl sl2 (by simpa using hv) (by simpa using hw) (by rw [List.size_toArray,List.size_toArray]; exact hsz)) ⟨ho,ho2,?_⟩
  rw [e]
  exact h2 hw
def sIx (n d:Nat):Option Int->Nat
 | none=>d
 | some v=>if v < 0 then (v + (n:Int)).toNat else min v.toNat n
theorem sIx_nat (n d k:Nat):sIx n d (some (k:Int))=min k n:=by
 show (if (k:Int) < 0 then ((k:Int) + (n:Int)).toNat else min (k:Int).toNat n)=min k n
 rw [if_neg (by (first|lia|omega)),Int.toNat_natCast]
theorem sIx_le (n d:Nat) (hd:d<=n) (o:Option Int):sIx n d o<=n:=by
 cases o with
 | none=>exact hd
 | some v=>
  show (if v < 0 then (v + (n:Int)).toNat else min v.toNat n)<=n
  by_cases hv:v < 0
  ·rw [if_pos hv]; (first|lia|omega)
  ·rw [if_neg hv]; exact Nat.min_le_right _ _
theorem clip_eq (v:Int) (n d:Nat):(if v < 0 then max (v + (n:Int)) 0 else min v (n:Int))=((sIx n d (some v):Nat):Int):=by
 show (if v < 0 then max (v + (n:Int)) 0 else min v (n:Int))=(((if v < 0 then (v + (n:Int)).toNat else min v.toNat n):Nat):Int)
 by_cases hv:v < 0
 ·simp only [if_pos hv]; (first|lia|omega)
 ·simp only [if_neg hv]; (first|lia|omega)
theorem adjust_gen (lo hi:Option Int) (n:Nat):Builtin.Slice.sliceAdjust lo hi 1 (n:Int)=(((sIx n 0 lo:Nat):Int),((sIx n n hi:Nat):Int)):=by
 have h1:¬ ((1:Int) < 0):=by (first|lia|omega)
 unfold Builtin.Slice.sliceAdjust
 simp only [h1,if_false]
 refine Prod.ext ?_ ?_
 ·cases lo with
  | none=>rfl
  | some v=>exact clip_eq v n 0
 ·cases hi with
  | none=>rfl
  | some v=>exact clip_eq v n n
theorem places_gen (i j:Nat):Builtin.Slice.slicePlaces (i:Int) (j:Int) 1=j - i:=by
 unfold Builtin.Slice.slicePlaces
 have h1:(1:Int) > 0:=by (first|lia|omega)
 simp only [h1,if_true,Int.ediv_one]
 split <;> (first|lia|omega)
theorem slicePart_ {v:Value} {o:Option Int} {Q:Option Int->Shared->Prop} (p:IsPart v o) (h:Q o s):wpAny (model prog w) A (Builtin.Slice.slicePartIndex v) Q E s:=by
 cases p with
 | none=>exact slicePart_none h
 | int i t=>exact slicePart_int h
theorem sliceApplied_gen {sl:Addr} {vl vu:Value} {lo hi:Option Int} {n:Nat} {Q:Int × Int × Nat->Shared->Prop} (hs:s.heap.IsSliceOf sl vl vu .none) (pl:IsPart vl lo) (pu:IsPart vu hi)
  (h:Q (((sIx n 0 lo:Nat):Int),1,sIx n n hi - sIx n 0 lo) s):wpAny (model prog w) A (Builtin.Slice.sliceApplied (.ref sl) (pure (n:Int))) Q E s:=by
 obtain ⟨os,hos,hcs,hds⟩:=id hs
 unfold Builtin.Slice.sliceApplied Builtin.Slice.sliceFields
 refine wpAny_bind (wpAny_bind (wpAny_field hos hds (x:=vl) rfl (wpAny_bind (wpAny_field hos hds (x:=vu) rfl (wpAny_bind (wpAny_field hos hds (x:=.none) rfl (wpAny_pure ?_)))))))
 refine wpAny_bind (slicePart_none ?_)
 show wpAny _ _ (if ((1:Int) == 0)=true then _ else _) _ _ s
 rw [if_neg (by decide)]
 refine wpAny_bind (slicePart_ pl (wpAny_bind (slicePart_ pu (wpAny_bind (wpAny_pure ?_)))))
 show wpAny _ _ (match Builtin.Slice.sliceAdjust lo hi 1 (n:Int) with | (lo,hi)=>pure (lo,(1:Int),Builtin.Slice.slicePlaces lo hi 1)) _ _ s
 rw [adjust_gen lo hi n]
 show wpAny _ _ (pure (((sIx n 0 lo:Nat):Int),(1:Int),Builtin.Slice.slicePlaces ((sIx n 0 lo:Nat):Int) ((sIx n n hi:Nat):Int) 1)) _ _ s
 rw [places_gen]
 exact wpAny_pure h
theorem pick_gen (xs:Array Value) (i k:Nat):((List.range k).filterMap fun (m:Nat)=>xs[((i:Int) + (m:Int) * 1).toNat]?).toArray=((xs.toList.drop i).take k).toArray:=by
 have e:(fun (m:Nat)=>xs[((i:Int) + (m:Int) * 1).toNat]?)=fun m=>xs[i + m]?:=by
  funext m
  have:((i:Int) + (m:Int) * 1).toNat=i + m:=by (first|lia|omega)
  rw [this]
 rw [e]
 have:=pick_run xs i k
 rw [List.filterMap_map] at this
 have e2:((fun x=>xs[x]?) ∘ fun x=>i + x)=fun m=>xs[i + m]?:=rfl
 rw [e2] at this
 rw [this]
theorem getItem_tuple_cut {t sl:Addr} {items:Array Value} {vl vu:Value} {lo hi:Option Int} {Q:Value->Shared->Prop} (ht:IsTup s.heap t items) (hs:s.heap.IsSliceOf sl vl vu .none) (pl:IsPart vl lo) (pu:IsPart vu hi)
  (hw:¬ (sIx items.size 0 lo=0/\sIx items.size items.size hi=items.size))
  (h:Q (.ref s.heap.objs.size) { s with heap:=s.heap.push { cls:=.type "tuple",data:=.seq ((items.toList.drop (sIx items.size 0 lo)).take (sIx items.size items.size hi - sIx items.size 0 lo)).toArray } })
  (hsz:items.size<=sizeLine):wpAny (model prog w) A (getItem (.ref t) (.ref sl)) Q E s:=by
 have htake:sizeOk (.seq ((items.toList.drop (sIx items.size 0 lo)).take (sIx items.size items.size hi - sIx items.size 0 lo)).toArray):=by
  show ((items.toList.drop (sIx items.size 0 lo)).take (sIx items.size items.size hi - sIx items.size 0 lo)).toArray.size<=sizeLine
  rw [List.size_toArray,List.length_take,List.length_drop,Array.length_toList]
  (first|lia|omega)
 have hj:sIx items.size items.size hi<=items.size:=sIx_le _ _ (Nat.le_refl _) hi
 obtain ⟨os,hos,hcs,hds⟩:=id hs
 have hTs:s.TypeIs (.ref sl) "slice":=⟨os,hos,hcs⟩
 unfold getItem
 try with_reducible refine wpAny_holding ?_
 first | refine wpAny_bind (wpAny_pure ?_) | skip
 refine wpAny_bind (wpAny_sequenceKey ht.typeIs (by decide) ?_)
 refine wpAny_bind (wpAny_callSpecial?_slot (name:=Str.ofString "__getitem__") ht.typeIs PyProof.Rows.slot_tuple_getitem
  (wpAny_call_entry PyProof.Rows.slot_tuple_getitem ht.typeIs entry_tuple_getitem ?_ (args_tuple_getitem _ _)))
 show wpAny _ _ (Builtin.Tuple.tupleItemsOf (.ref t) >>= _) _ _ s
 refine wpAny_bind (tupleItemsOf_ ht ?_)
 refine wpAny_bind (wpAny_typeOf hTs ?_)
 rw [if_pos (by decide)]
 refine wpAny_bind (sliceApplied_gen hs pl pu ?_)
 have hno:¬ ((((sIx items.size 0 lo:Nat):Int) == 0 && (1:Int) == 1 && (sIx items.size items.size hi - sIx items.size 0 lo) == items.size)=true):=by
  intro q
  rw [Bool.and_eq_true,Bool.and_eq_true] at q
  have q1:((sIx items.size 0 lo:Nat):Int)=0:=eq_of_beq q.1.1
  have q2:sIx items.size items.size hi - sIx items.size 0 lo=items.size:=eq_of_beq q.2
  exact hw ⟨by (first|lia|omega),by (first|lia|omega)⟩
 show wpAny _ _ (if (((sIx items.size 0 lo:Nat):Int) == 0 && (1:Int) == 1 && (sIx items.size items.size hi - sIx items.size 0 lo) == items.size)=true then _ else _) _ _ s
 rw [if_neg hno,pick_gen]
 first
  | exact wpAny_bind (m:=Builtin.Tuple.tupleExact _) (wpAny_newObj_type (wpAny_pure ⟨_,rfl,wpAny_pure h⟩) htake)
  | exact wpAny_bind (m:=Builtin.Tuple.tupleExact _) (wpAny_newObj_type (wpAny_bind (wpAny_pure (wpAny_pure ⟨_,rfl,wpAny_pure h⟩))) htake)
  | exact wpAny_bind (wpAny_bind (m:=Builtin.Tuple.tupleExact _) (wpAny_newObj_type (wpAny_pure (wpAny_pure ⟨_,rfl,wpAny_pure h⟩)) htake))
  | exact wpAny_bind (wpAny_bind (m:=Builtin.Tuple.tupleExact _) (wpAny_newObj_type (wpAny_pure ⟨_,rfl,wpAny_pure h⟩) htake))
end
end HT
namespace L2
open PySem PySem.Spec PyProof.Rows
abbrev TO:=St->Hp->(Option Int->Hp->Prop)->Prop
def PO (X:Cx) (e:Option Expr) (t:TO):Prop:=
 ∀ (pins:List (Addr × Obj)) (s:Shared) (σ:St) (H:Hp) (Q:Option Int->Hp->Prop),Inv X pins σ H s->t σ H Q ->
  wpAny (model X.prog X.w) X.A (evalPart e X.env) (fun u s'=>∃ o H',Inv X pins σ H' s'/\IsPart u o/\Q o H') X.xe s
def tNoPart:TO:=fun _ H Q=>Q none H
def tPart (t:TE):TO:=fun σ H Q=>t σ H fun x H1=>∃ i,x=.int i/\Q (some i) H1
section
variable {X:Cx} {e:Expr} {te:TE} {lo hi:Option Expr} {tl th:TO} {pos p2:Pos}
theorem po_none:PO X none tNoPart:=by
 intro pins s σ H Q I h
 rw [evalPart_none]
 exact wpAny_pure ⟨none,H,I,.none,h⟩
theorem po_some (h:PE X e te):PO X (some e) (tPart te):=by
 intro pins s σ H Q I hw
 rw [evalPart_some]
 refine thn (h pins s σ H _ I hw) fun u s1 ⟨x,H1,I1,r1,q1⟩=>?_
 obtain ⟨i,rfl,q⟩:=q1
 obtain ⟨t,rfl⟩:=r1
 exact ⟨some i,H1,I1,.int i t,q⟩
def SlR (X:Cx) (r:V->Option Int->Option Int->Hp->VK->Prop):Prop:=
 ∀ (pins:List (Addr × Obj)) (s:Shared) (σ:St) (H:Hp) (x:V) (v vl vu:Value) (lo hi:Option Int) (sl:Addr) (Q:VK),Inv X pins σ H s->RelV x v->s.heap.IsSliceOf sl vl vu .none->IsPart vl lo->IsPart vu hi->r x lo hi H Q ->
  ∃ T id,typeLookup (.type T) "__getitem__"=pure (some (.builtin id))/\s.TypeIs v T/\wpAny (model X.prog X.w) X.A (getItem v (.ref sl)) (EP X pins σ Q) X.xe s
def tSl (r:V->Option Int->Option Int->Hp->VK->Prop) (te:TE) (tl th:TO):TE:=fun σ H Q=>te σ H fun x H1=>tl σ H1 fun l H2=>th σ H2 fun u H3=>r x l u H3 Q
theorem pe_slice {r:V->Option Int->Option Int->Hp->VK->Prop} (hr:SlR X r) (he:PE X e te) (hl:PO X lo tl) (hu:PO X hi th):PE X (.Subscript e (.Slice lo hi none p2) pos) (tSl r te tl th):=by
 intro pins s σ H Q I h
 refine Subscript_ (thn (he pins s σ H _ I h) fun v s1 ⟨x,H1,I1,r1,q1⟩=>?_)
 refine wpAny_Slice (thn (hl pins s1 σ H1 _ I1 q1) fun vl s2 ⟨l,H2,I2,pl,q2⟩=>thn (hu pins s2 σ H2 _ I2 q2) fun vu s3 ⟨u,H3,I3,pu,q3⟩=>?_)
 rw [evalPart_none]
 refine wpAny_pure ?_
 have I4:Inv X pins σ H3 { s3 with heap:=s3.heap.push { cls:=.type "slice",data:=.fields #[vl,vu,.none] } }:=I3.kept (t':=s3.toks) fun b ob q=>Heap.get?_push_of_some _ q
 obtain ⟨T,id,hT,ht,hg⟩:=hr pins { s3 with heap:=s3.heap.push { cls:=.type "slice",data:=.fields #[vl,vu,.none] } } σ H3 x v vl vu l u s3.heap.objs.size Q I4 r1 (Heap.IsSliceOf.new ..) pl pu q3
 show wpAny (model X.prog X.w) X.A (subscriptTail e (.Slice lo hi none p2) v (.ref s3.heap.objs.size)) (EP X pins σ Q) X.xe { s3 with heap:=s3.heap.push { cls:=.type "slice",data:=.fields #[vl,vu,.none] } }
 exact tail_any (ops:=[.ref s3.heap.objs.size,v]) ht hT hg (by with_unfolding_all rfl)
def cutV (xs:List V) (lo hi:Option Int):List V:=(xs.drop (HT.sIx xs.length 0 lo)).take (HT.sIx xs.length xs.length hi - HT.sIx xs.length 0 lo)
theorem cutV_length (xs:List V) (lo hi:Option Int):(cutV xs lo hi).length<=xs.length:=by
 unfold cutV
 rw [List.length_take,List.length_drop]
 (first|lia|omega)
def rSlT (K:PySem.W.Frag):V->Option Int->Option Int->Hp->VK->Prop:=fun x lo hi H Q=>∃ a xs,x=.ref a/\SqT K H a xs /\
 ¬ (HT.sIx xs.length 0 lo=0/\HT.sIx xs.length xs.length hi=xs.length)/\∀ p,H p=none->Q (.ref p) (upd H p (.tup (cutV xs lo hi)))
theorem sl_tup:SlR X (rSlT X.K):=by
 intro pins s σ H x v vl vu lo hi sl Q I rx hs pl pu h
 obtain ⟨a,xs,rfl,hx,hw,q⟩:=h
 cases rx
 obtain ⟨its,r,ht,hz⟩:=I.tuple hx
 have hlen:its.toArray.size=xs.length:=by rw [List.size_toArray]; exact r.length.symm
 refine ⟨"tuple",_,PyProof.Rows.slot_tuple_getitem.lookup,ht.typeIs,?_⟩
 refine HT.getItem_tuple_cut ht hs pl pu (by rw [hlen]; exact hw) ?_ (by rw [hlen]; exact hz)
 rw [hlen]
 refine ⟨.ref s.heap.objs.size,_,I.laid (t':=s.toks) (o:=.tup (cutV xs lo hi)) (fun b ob q=>Heap.get?_push_of_some _ q) (Nat.le_refl _) ?_,rfl,q _ (I.hok.fresh (Nat.le_refl _))⟩
 exact ⟨Nat.le_trans (cutV_length xs lo hi) hz,_,(r.drop (HT.sIx xs.length 0 lo)).take (HT.sIx xs.length xs.length hi - HT.sIx xs.length 0 lo),IsTup.new _ _,TupD.new rfl rfl⟩
def rCatT (K:PySem.W.Frag):R2:=fun x y H Q=>∃ a b xs ys,x=.ref a/\y=.ref b/\SqT K H a xs/\SqT K H b ys/\xs ≠ []/\xs.length + ys.length<=sizeLine /\
 (ys=[]->Q (.ref a) H)/\(ys ≠ []->∀ p,H p=none->Q (.ref p) (upd H p (.tup (xs ++ ys))))
theorem Vals.nil_iff {xs:List V} {us:List Value} (r:Vals xs us):us=[] ↔ xs=[]:=by
 cases r with
 | nil=>simp
 | cons _ _=>simp
theorem op_catT:OpR X (binaryOp .Add) (rCatT X.K):=by
 intro pins s σ H x y v u Q I rx ry h
 obtain ⟨a,b,xs,ys,rfl,rfl,ha,hb,hx,hz,q1,q2⟩:=h
 cases rx
 cases ry
 obtain ⟨its,r1,p1,_⟩:=I.tuple ha
 obtain ⟨its2,r2,p2,_⟩:=I.tuple hb
 refine HT.cat_tup p1 p2 (fun z=>hx (r1.nil_iff.mp z)) (fun z=>⟨.ref a,H,I,rfl,q1 (r2.nil_iff.mp z)⟩) (fun z=>?_) (by rw [<-r1.length,<-r2.length]; exact hz)
 refine ⟨.ref s.heap.objs.size,_,I.laid (t':=s.toks) (o:=.tup (xs ++ ys)) (fun b ob q=>Heap.get?_push_of_some _ q) (Nat.le_refl _) ?_,rfl,q2 (fun w=>z (r2.nil_iff.mpr w)) _ (I.hok.fresh (Nat.le_refl _))⟩
 exact ⟨by rw [List.length_append]; exact hz,_,r1.append r2,IsTup.new _ _,TupD.new rfl rfl⟩
end
def ixN (n:Nat) (i:Int):Option Nat:=if 0<=i then (if i < n then some i.toNat else none) else if -(n:Int)<=i then some (i + n).toNat else none
def atI {α:Type} (xs:List α) (i:Int):Option α:=(ixN xs.length i).bind fun j=>xs[j]?
theorem ixN_seq {n:Nat} {i:Int} {j:Nat} (h:ixN n i=some j):seqIndex? i n=some j/\j < n/\-(n:Int)<=i/\i < n:=by
 unfold ixN at h
 by_cases h0:0<=i
 ·rw [if_pos h0] at h
  by_cases h1:i < n
  ·rw [if_pos h1] at h
   have e:i.toNat=j:=Option.some.inj h
   exact ⟨by rw [seqIndex_of h0 h1,e],by (first|lia|omega),by (first|lia|omega),h1⟩
  ·rw [if_neg h1] at h; cases h
 ·rw [if_neg h0] at h
  by_cases h1:-(n:Int)<=i
  ·rw [if_pos h1] at h
   have e:(i + n).toNat=j:=Option.some.inj h
   exact ⟨by rw [seqIndex_neg (by (first|lia|omega)) h1,e],by (first|lia|omega),h1,by (first|lia|omega)⟩
  ·rw [if_neg h1] at h; cases h
theorem atI_get {α:Type} {xs:List α} {i:Int} {v:α} (h:atI xs i=some v):∃ j,seqIndex? i xs.length=some j/\xs[j]? = some v/\j < xs.length/\-(xs.length:Int)<=i/\i < xs.length:=by
 unfold atI at h
 cases e:ixN xs.length i with
 | none=>rw [e] at h; cases h
 | some j=>
  rw [e] at h
  obtain ⟨h1,h2,h3,h4⟩:=ixN_seq e
  exact ⟨j,h1,h,h2,h3,h4⟩
theorem atI_nat {α:Type} {xs:List α} {j:Nat} {v:α} (h:xs[j]? = some v):atI xs (j:Int)=some v:=by
 have hj:j < xs.length:=(List.getElem?_eq_some_iff.mp h).1
 have e:ixN xs.length (j:Int)=some j:=by
  unfold ixN
  rw [if_pos (by (first|lia|omega)),if_pos (by (first|lia|omega))]; simp
 unfold atI; rw [e]; exact h
def PlainIx (b:Expr):Prop:=∀ o i,subscripted b false o i=operate [o,i] (getItem o i)
def IxR (X:Cx) (r:R2):Prop:=
 ∀ (value slice:Expr) (pins:List (Addr × Obj)) (s:Shared) (σ:St) (H:Hp) (x y:V) (v u:Value) (Q:VK),Inv X pins σ H s->RelV x v->RelV y u->r x y H Q ->
  subscripted slice false v u=operate [v,u] (getItem v u)->wpAny (model X.prog X.w) X.A (subscriptTail value slice v u) (EP X pins σ Q) X.xe s
def MtR (X:Cx) (id:String) (r:V->List V->Hp->VK->Prop):Prop:=
 ∀ (pins:List (Addr × Obj)) (s:Shared) (σ:St) (H:Hp) (x:V) (xs:List V) (v:Value) (us:List Value) (Q:VK),Inv X pins σ H s->RelV x v->Vals xs us->r x xs H Q ->
  wpAny (model X.prog X.w) X.A (call (.builtin id) (v :: us)) (EP X pins σ Q) X.xe s
section
variable {X:Cx} {a b:Expr} {ta tb:TE} {pos:Pos}
theorem pe_ix {r:R2} (hr:IxR X r) (ha:PE X a ta) (hb:PE X b tb) (hs:PlainIx b):PE X (.Subscript a b pos) (tOp r ta tb):=by
 intro pins s σ H Q I h
 exact Subscript_ (binT ha hb I h fun v u s2 x y H2 I2 rx ry q=>hr a b pins s2 σ H2 x y v u Q I2 rx ry q (hs _ _))
def rIxL (K:PySem.W.Frag):R2:=fun x y H Q=>∃ p xs i v,x=.ref p/\y=.int i/\SqL K H p xs/\atI xs i=some v/\Q v H
def rIxT (K:PySem.W.Frag):R2:=fun x y H Q=>∃ p xs i v,x=.ref p/\y=.int i/\SqT K H p xs/\atI xs i=some v/\Q v H
def rIxS:R2:=fun x y H Q=>∃ z i c,x=.str z/\y=.int i/\z.length<=sizeLine/\atI z.cps.toList i=some c/\Q (.str ⟨#[c]⟩) H
theorem ix_list:IxR X (rIxL X.K):=by
 intro value slice pins s σ H x y v u Q I rx ry h hs
 obtain ⟨p,xs,i,z,rfl,rfl,hq,he,q⟩:=h
 cases rx
 obtain ⟨t,rfl⟩:=ry
 obtain ⟨its,r,pl,hz⟩:=I.list hq
 obtain ⟨j,h1,h2,h3,h4,h5⟩:=atI_get he
 obtain ⟨w,ew,rw'⟩:=r.get h2
 have hl:=r.length
 have hn:=line63
 have fin:EP X pins σ Q w s:=⟨z,H,I,rw',q⟩
 by_cases h0:0<=i
 ·have hj:i.toNat=j:=by
   rw [seqIndex_of h0 h5] at h1
   exact Option.some.inj h1
  exact item_listR pl.isList h0 (by (first|lia|omega)) (by rw [hj]; simpa using ew) fin hs
 ·have hj:(i + (its.toArray.size:Int)).toNat=j:=by
   rw [seqIndex_neg (by (first|lia|omega)) h4] at h1
   rw [List.size_toArray,<-hl]
   exact Option.some.inj h1
  exact subscriptTail_builtinR (x:=w) pl.isList.typeIs slot_list_getitem.lookup
   (wpAny_getItem_list_neg (Q:=fun r s'=>r=w/\EP X pins σ Q r s') pl.isList (by (first|lia|omega)) (by rw [List.size_toArray] <;> (first|lia|omega)) (by (first|lia|omega)) (by rw [hj]; simpa using ew) ⟨rfl,fin⟩) hs
theorem ix_tup:IxR X (rIxT X.K):=by
 intro value slice pins s σ H x y v u Q I rx ry h hs
 obtain ⟨p,xs,i,z,rfl,rfl,hq,he,q⟩:=h
 cases rx
 obtain ⟨t,rfl⟩:=ry
 obtain ⟨its,r,pl,hz⟩:=I.tuple hq
 obtain ⟨j,h1,h2,h3,h4,h5⟩:=atI_get he
 obtain ⟨w,ew,rw'⟩:=r.get h2
 have hl:=r.length
 have hn:=line63
 have fin:EP X pins σ Q w s:=⟨z,H,I,rw',q⟩
 exact subscriptTail_builtinR (x:=w) pl.typeIs slot_tuple_getitem.lookup
  (getItem_tuple (j:=j) (Q:=fun r s'=>r=w/\EP X pins σ Q r s') pl (by (first|lia|omega)) (by (first|lia|omega)) (by rw [List.size_toArray,<-hl]; exact h1) (by simpa using ew) ⟨rfl,fin⟩) hs
theorem ix_str:IxR X rIxS:=by
 intro value slice pins s σ H x y v u Q I rx ry h hs
 obtain ⟨z,i,c,rfl,rfl,hz,he,q⟩:=h
 obtain ⟨t,rfl⟩:=rx
 obtain ⟨t',rfl⟩:=ry
 obtain ⟨j,h1,h2,h3,h4,h5⟩:=atI_get he
 have hl:z.cps.toList.length=z.length:=by simp [Str.length]
 rw [hl] at h1 h4 h5
 have hn:=line63
 exact tail_any (typeIs_str s z t) slot_str_getitem.lookup (getItem_str (c:=c) (by
  have e1:decide (i < -(2 ^ 63:Int))=false:=decide_eq_false (by (first|lia|omega))
  have e2:decide (i >= 2 ^ 63)=false:=decide_eq_false (by (first|lia|omega))
  rw [e1,e2,Bool.or_false]) (by rw [h1]; simpa using h2) ⟨.str ⟨#[c]⟩,H,I.tok _,⟨_,rfl⟩,q⟩) hs
theorem mapSeq_set (its:List Value) (n j:Nat) (u:Value):Obj.mapSeq (·.setIfInBounds j u) { cls:=.type "list",data:=.seq its.toArray n } = { cls:=.type "list",data:=.seq (its.set j u).toArray n }:=by
 simp [Obj.mapSeq]
theorem Inv.lst {pins:List (Addr × Obj)} {σ:St} {H:Hp} {s:Shared} {p:Addr} {xs:List V} (I:Inv X pins σ H s) (h:H p=some (.lst xs)) :
  ∃ (its:List Value) (n:Nat),Vals xs its/\s.heap.get? p=some { cls:=.type "list",data:=.seq its.toArray n }/\xs.length<=sizeLine:=by
 obtain ⟨z,its,n,r,e⟩:=I.hok p _ h
 exact ⟨its,n,r,e,z⟩
theorem Inv.lstUpd {pins:List (Addr × Obj)} {σ:St} {H:Hp} {s:Shared} {p:Addr} {xs ys:List V} {its its':List Value} {n n':Nat} {f:Obj->Obj} (I:Inv X pins σ H s) (h:H p=some (.lst xs))
  (ho:s.heap.get? p=some { cls:=.type "list",data:=.seq its.toArray n }) (hf:f { cls:=.type "list",data:=.seq its.toArray n } = { cls:=.type "list",data:=.seq its'.toArray n' }) (r:Vals ys its') (hz:ys.length<=sizeLine) (t:Nat) :
  Inv X pins σ (upd H p (.lst ys)) { s with heap:=s.heap.update p f,toks:=t }:=by
 have e:(s.heap.update p f).get? p=some { cls:=.type "list",data:=.seq its'.toArray n' }:=by
  rw [Heap.get?_update_self f ho (by rw [hf] <;> rfl),hf]
 refine I.write (x:=p) (e:=p) (by rw [h]; trivial) (.inl rfl) (fun b u hb q=>(Heap.get?_update_other _ _ (Ne.symm hb)).trans q) ⟨_,e⟩ ?_
 exact ⟨hz,its',n',r,e⟩
def rSetL:V->V->V->Hp->(Hp->Prop)->Prop:=fun o i v H Q=>∃ p xs k j,o=.ref p/\i=.int k/\H p=some (.lst xs)/\ixN xs.length k=some j/\Q (upd H p (.lst (xs.set j v)))
theorem set_list:PSet X rSetL:=by
 intro pins s σ H o i v ov iv u Q I ro ri rv h
 obtain ⟨p,xs,k,j,rfl,rfl,hp,hj,q⟩:=h
 cases ro
 obtain ⟨t,rfl⟩:=ri
 obtain ⟨its,n,r,ho,hz⟩:=I.lst hp
 obtain ⟨h1,h2,h3,h4⟩:=ixN_seq hj
 have hl:=r.length
 have hn:=line63
 have I':Inv X pins σ (upd H p (.lst (xs.set j v))) { s with heap:=s.heap.update p (Obj.mapSeq (·.setIfInBounds j u)) }:=
  I.lstUpd hp ho (mapSeq_set its n j u) (r.set rv j) (by rw [List.length_set]; exact hz) s.toks
 by_cases h0:0<=k
 ·have hk:k.toNat=j:=by
   rw [seqIndex_of h0 h4] at h1
   exact Option.some.inj h1
  exact PySem.W.ki_setAt ho h0 (by (first|lia|omega)) (by rw [List.size_toArray,<-hl]; exact h4) (by rw [hk]; exact ⟨_,I',q⟩)
 ·have hk:(k + (its.toArray.size:Int)).toNat=j:=by
   rw [seqIndex_neg (by (first|lia|omega)) h3] at h1
   rw [List.size_toArray,<-hl]
   exact Option.some.inj h1
  exact PySem.W.ki_setBack ho (by (first|lia|omega)) (by rw [List.size_toArray,<-hl]; exact h3) (by (first|lia|omega)) (by rw [hk]; exact ⟨_,I',q⟩)
theorem call_len_seq:CallR X (.builtin "len") (fun xs H Q=>∃ p ys,xs=[.ref p]/\(SqL X.K H p ys\/SqT X.K H p ys)/\Q (.int ys.length) H):=by
 intro pins s σ H xs us Q I r h
 obtain ⟨p,ys,rfl,hq,q⟩:=h
 obtain ⟨u,rfl,rx⟩:=vals1 r
 cases rx
 have hn:=line63
 rcases hq with hq | hq
 ·obtain ⟨its,r',pl,hz⟩:=I.list hq
  have hlen:=r'.length
  exact Calls.call_len_list pl.isList (by simp only [List.size_toArray] <;> (first|lia|omega)) ⟨.int ys.length,H,I.tok _,⟨s.toks + 1,by rw [List.size_toArray,hlen]⟩,q⟩
 ·obtain ⟨its,r',pl,hz⟩:=I.tuple hq
  have hlen:=r'.length
  exact len_tuple pl (by simp only [List.size_toArray] <;> (first|lia|omega)) ⟨.int ys.length,H,I.tok _,⟨s.toks + 1,by rw [List.size_toArray,hlen]⟩,q⟩
theorem call_len_str:CallR X (.builtin "len") (fun xs H Q=>∃ z,xs=[.str z]/\z.length<=sizeLine/\Q (.int z.length) H):=by
 intro pins s σ H xs us Q I r h
 obtain ⟨z,rfl,hz,q⟩:=h
 obtain ⟨u,rfl,t,rfl⟩:=vals1 r
 have hn:=line63
 exact len_str (by (first|lia|omega)) ⟨.int z.length,H,I.tok _,⟨_,rfl⟩,q⟩
theorem call_list_of:CallR X (.type "list") (fun xs H Q=>∃ p ys,xs=[.ref p]/\(SqL X.K H p ys\/SqT X.K H p ys)/\∀ l,H l=none->Q (.ref l) (upd H l (.lst ys))):=by
 intro pins s σ H xs us Q I r h
 obtain ⟨p,ys,rfl,hq,q⟩:=h
 obtain ⟨u,rfl,rx⟩:=vals1 r
 cases rx
 have fin:∀ (its:List Value),Vals ys its->ys.length<=sizeLine->∀ (h':Heap) (c':Nat),(∀ b o',s.heap.get? b=some o'->h'.get? b=some o') ->
   h'.get? s.heap.objs.size=some { cls:=.type "list",dict:=none,data:=.seq its.toArray c',slots:=#[] }->EP X pins σ Q (.ref s.heap.objs.size) { s with heap:=h' }:=fun its r' hz h' c' kp e=>
  ⟨.ref s.heap.objs.size,_,I.laid (t':=s.toks) kp (Nat.le_refl _) (show ObjOk X.prog X.w _ h' _ (.lst ys) from ⟨hz,its,c',r',e⟩),rfl,q _ (I.hok.fresh (Nat.le_refl _))⟩
 rcases hq with hq | hq
 ·obtain ⟨its,r',pl,hz⟩:=I.list hq
  have hlen:=r'.length
  obtain ⟨o,ho,hc,n,hd⟩:=pl.isList
  exact call_list_seq p (.inl rfl) ho hc hd (fun h' c' kp e=>fin its r' hz h' c' kp e) (by simp only [List.size_toArray] <;> (first|lia|omega))
 ·obtain ⟨its,r',pl,hz⟩:=I.tuple hq
  have hlen:=r'.length
  obtain ⟨o,ho,hc,n,hd⟩:=pl
  exact call_list_seq p (.inr rfl) ho hc hd (fun h' c' kp e=>fin its r' hz h' c' kp e) (by simp only [List.size_toArray] <;> (first|lia|omega))
theorem call_tuple_of:CallR X (.type "tuple") (fun xs H Q=>∃ p ys,xs=[.ref p]/\((SqL X.K H p ys/\∀ l,H l=none->Q (.ref l) (upd H l (.tup ys)))\/(SqT X.K H p ys/\Q (.ref p) H))):=by
 intro pins s σ H xs us Q I r h
 obtain ⟨p,ys,rfl,h⟩:=h
 obtain ⟨u,rfl,rx⟩:=vals1 r
 cases rx
 rcases h with ⟨hq,q⟩ | ⟨hq,q⟩
 ·obtain ⟨its,r',pl,hz⟩:=I.list hq
  have hlen:=r'.length
  refine call_tuple_list pl.isList (fun h' kp=>?_) (by simp only [List.size_toArray] <;> (first|lia|omega))
  have I1:Inv X pins σ H { s with heap:=h' }:=I.kept (t':=s.toks) kp
  have I2:Inv X pins σ (upd H h'.objs.size (.tup ys)) { s with heap:=h'.push { cls:=.type "tuple",data:=.seq its.toArray } }:=
   I1.laid (t':=s.toks) (fun b o e=>Heap.get?_push_of_some _ e) (Nat.le_refl _) (show ObjOk X.prog X.w _ _ _ (.tup ys) from ⟨hz,its,r',IsTup.new _ _,TupD.new rfl rfl⟩)
  exact ⟨.ref h'.objs.size,_,I2,rfl,q _ (I1.hok.fresh (Nat.le_refl _))⟩
 ·obtain ⟨its,r',pl,hz⟩:=I.tuple hq
  exact call_tuple_same pl ⟨.ref p,H,I,rfl,q⟩
def tyV (K:PySem.W.Frag) (T:String) (x:V) (H:Hp):Prop:=match x with
 | .str _=>T="str"
 | .int _=>T="int"
 | .ref p=>(T="list"/\∃ xs,SqL K H p xs)\/(T="tuple"/\∃ o,K.lookup p=some o/\o.cls=.type "tuple"/\o.dict=none) \/
   (T="dict"/\((∃ kvs,H p=some (.dK kvs))\/∃ kvs,H p=some (.dT kvs)))\/(T="set"/\∃ S n,H p=some (.set S n))
 | _=>False
theorem tyV_is {pins:List (Addr × Obj)} {σ:St} {H:Hp} {s:Shared} {T:String} {x:V} {v:Value} (I:Inv X pins σ H s) (r:RelV x v) (ty:tyV X.K T x H) :
  s.TypeIs v T/\∀ a,v=.ref a->∃ ob,s.heap.get? a=some ob/\ob.dict=none:=by
 cases x with
 | str z=>
  obtain ⟨t,rfl⟩:=r
  cases (show T="str" from ty)
  exact ⟨typeIs_str s z t,fun _ e=>nomatch e⟩
 | int i=>
  obtain ⟨t,rfl⟩:=r
  cases (show T="int" from ty)
  exact ⟨typeIs_int s i t,fun _ e=>nomatch e⟩
 | ref p=>
  cases r
  rcases ty with ⟨rfl,xs,hq⟩ | ⟨rfl,o,hk,hc,hd⟩ | ⟨rfl,hk⟩ | ⟨rfl,S,n,hk⟩
  ·obtain ⟨its,_,pl,_⟩:=I.list hq
   refine ⟨pl.isList.typeIs,fun a e=>?_⟩
   cases e
   obtain ⟨o,n,e,c,hd,_⟩:=pl
   exact ⟨o,e,hd⟩
  ·refine ⟨⟨o,I.kIn p o hk,hc⟩,fun a e=>?_⟩
   cases e
   exact ⟨o,I.kIn _ o hk,hd⟩
  ·have z:∃ o,s.heap.get? p=some o/\o.ExactDict:=by
    rcases hk with ⟨kvs,hk⟩ | ⟨kvs,hk⟩
    ·obtain ⟨_,_,_,_,o,_,_,e,ex,_⟩:=I.hok p _ hk
     exact ⟨o,e,ex⟩
    ·obtain ⟨_,_,_,_,o,_,_,e,ex,_⟩:=I.hok p _ hk
     exact ⟨o,e,ex⟩
   obtain ⟨o,e,ex⟩:=z
   refine ⟨⟨o,e,ex.1⟩,fun a e2=>?_⟩
   cases e2
   exact ⟨o,e,ex.2.1⟩
  ·obtain ⟨o,_,_,_,e,ex,_⟩:=I.hok p _ hk
   refine ⟨⟨o,e,ex.1⟩,fun a e2=>?_⟩
   cases e2
   exact ⟨o,e,ex.2.1⟩
 | _=>exact False.elim ty
def tBM (K:PySem.W.Frag) (T:String) (r:V->List V->Hp->VK->Prop) (to:TE) (t:TA):TE:=fun σ H Q=>to σ H fun x H1=>tyV K T x H1/\t σ H1 fun xs H2=>r x xs H2 Q
variable {o e:Expr} {es:List Expr} {to:TE} {t:TA} {name:Str} {apos cpos:Pos} {T id:String} {r:V->List V->Hp->VK->Prop}
theorem pe_bm (pa:PlainAttrs T) (slot:Slot T name id) (hty:typeOf (.builtin id)=pure (.type "method_descriptor")) (hm:MtR X id r) (ho:PE X o to) (ha:PA X (e :: es) t)
  (hbase:attributeBase o name X.env (eval o X.env)=eval o X.env:=by rfl)
  (hfew:((backTo cpos (starEach (e :: es) X.env)).all (fun x=>!x.1) && (backToKw cpos (keywordEach [] X.env)).all (fun x=>x.1.isSome)
   && decide ((e :: es).length + ([]:List Keyword).length + (if ([]:List Keyword).isEmpty then 0 else 1) < 30))=true:=by rfl)
  (hline:(apos.endLine == cpos.line)=true:=by rfl) (hs:starEach (e :: es) X.env=(false,eval e X.env) :: starEach es X.env:=by rfl) (hplain:(backTo cpos (starEach es X.env)).any (·.1)=false:=by rfl) :
  PE X (.Call (.Attribute o name apos) (e :: es) [] cpos) (tBM X.K T r to t):=by
 intro pins s σ H Q I h
 refine wpAny_Call_method_late hbase hfew hline rfl (thn (ho pins s σ H _ I h) fun v s1 ⟨x,H1,I1,r1,ty,q1⟩=>?_)
 obtain ⟨h1,h2⟩:=tyV_is I1 r1 ty
 refine ⟨T,id,pa,slot,hty,h1,h2,?_⟩
 have hA:=ha cpos pins s1 σ H1 _ I1 q1
 rw [hs] at hA ⊢
 refine Calls.callWith_builtin (by show (false || (backTo cpos (starEach es X.env)).any (·.1))=false; rw [hplain] <;> rfl) (Calls.evalArgs_plain ?_)
 exact thn hA fun us s2 ⟨vs,H2,I2,r2,q2⟩=>hm pins s2 σ H2 x vs v us Q I2 r1 r2 q2
end
def MtM (X:Cx) (id:String) (r:V->List V->Hp->VK->Prop):Prop:=
 ∀ (pins:List (Addr × Obj)) (s:Shared) (σ:St) (H:Hp) (x:V) (xs:List V) (v:Value) (us:List Value) (Q:VK),Inv X pins σ H s->RelV x v->Vals xs us->r x xs H Q ->
  wpAny (model X.prog X.w) X.A (call (.builtin id) (v :: us)) (EP X pins σ Q) X.xe s
theorem Vals.one:∀ {x:V} {us:List Value},Vals [x] us->∃ u,us=[u]/\RelV x u
 | _,_,.cons r .nil=>⟨_,rfl,r⟩
theorem Vals.eraseIdx:∀ {xs:List V} {us:List Value} (i:Nat),Vals xs us->Vals (xs.eraseIdx i) (us.eraseIdx i)
 | _,_,_,.nil=>.nil
 | _,_,0,.cons _ t=>t
 | _,_,i + 1,.cons r t=>.cons r (Vals.eraseIdx i t)
theorem len_erase {α:Type}:∀ (l:List α) (i:Nat),(l.eraseIdx i).length<=l.length
 | [],_=>Nat.le_refl _
 | _ :: _,0=>Nat.le_succ _
 | _ :: r,i + 1=>Nat.succ_le_succ (len_erase r i)
section
variable {X:Cx} {pins:List (Addr × Obj)} {σ:St} {H:Hp} {s:Shared} {l b:Addr} {xs ys zs:List V}
theorem Inv.lset {its its':List Value} {n:Nat} {f:Array Value->Array Value} {t':Nat} (I:Inv X pins σ H s) (hH:H l=some (.lst xs))
  (e:s.heap.get? l=some { cls:=.type "list",data:=.seq its.toArray n }) (hf:f its.toArray=its'.toArray) (hv:Vals ys its') (hz:ys.length<=sizeLine) :
  Inv X pins σ (upd H l (.lst ys)) { s with heap:=s.heap.update l (Obj.mapSeq f),toks:=t' }:=by
 have q:=PySem.IsL.update e f
 rw [hf] at q
 refine I.write (x:=l) (e:=l) (by rw [hH]; exact trivial) (.inl rfl) (fun b' u hb hu=>(Heap.get?_update_other s.heap (Obj.mapSeq f) (Ne.symm hb)).trans hu) ⟨_,q⟩ ?_
 exact ⟨hz,its',_,hv,q⟩
theorem Inv.lnew {its:List Value} {t':Nat} (I:Inv X pins σ H s) (hv:Vals ys its) (hz:ys.length<=sizeLine) :
  Inv X pins σ (upd H s.heap.objs.size (.lst ys)) { s with heap:=s.heap.push { cls:=.type "list",data:=.seq its.toArray },toks:=t' }:=
 I.laid (fun _ _ q=>Heap.get?_push_of_some _ q) (Nat.le_refl _) ⟨hz,its,0,hv,Heap.get?_push_size _ rfl⟩
theorem Inv.fresh (I:Inv X pins σ H s):H s.heap.objs.size=none:=I.hok.fresh (Nat.le_refl _)
theorem Inv.lstM (I:Inv X pins σ H s) (hH:H l=some (.lst xs)):xs.length<=sizeLine/\∃ (its:List Value) (n:Nat),Vals xs its/\xs.length=its.length/\s.heap.get? l=some { cls:=.type "list",data:=.seq its.toArray n }:=by
 obtain ⟨z,its,n,r,e⟩:=I.hok l _ hH
 exact ⟨z,its,n,r,r.length,e⟩
end
section
variable {X:Cx}
def rAppend:V->List V->Hp->VK->Prop:=fun x vs H Q=>∃ l xs y,x=.ref l/\vs=[y]/\H l=some (.lst xs)/\xs.length < sizeLine/\Q .non (upd H l (.lst (xs ++ [y])))
theorem mt_append:MtM X "list.append" rAppend:=by
 intro pins s σ H x vs v us Q I rx rv h
 obtain ⟨l,xs,y,rfl,rfl,hH,hz,q⟩:=h
 cases rx
 obtain ⟨u,rfl,ru⟩:=rv.one
 obtain ⟨z,its,n,r,hl,e⟩:=I.lstM hH
 refine call_meets F.slot_list_append ⟨_,e,rfl⟩ F.entry_list_append (F.args_list_append_2 _ _) (PySem.list_append l its.toArray n u (by rw [List.size_toArray]; (first|lia|omega))) ⟨e,?_⟩
 refine ⟨.non,_,I.lset (its':=its ++ [u]) hH e (by simp) (r.append (.cons ru .nil)) ?_,rfl,q⟩
 rw [List.length_append,List.length_singleton]
 (first|lia|omega)
def rPopAt:V->List V->Hp->VK->Prop:=fun x vs H Q=>∃ l xs i k y,x=.ref l/\vs=[.int i]/\H l=some (.lst xs)/\-(2 ^ 63)<=i/\i < 2 ^ 63/\seqIndex? i xs.length=some k/\xs[k]? = some y/\Q y (upd H l (.lst (xs.eraseIdx k)))
theorem mt_popAt:MtM X "list.pop" rPopAt:=by
 intro pins s σ H x vs v us Q I rx rv h
 obtain ⟨l,xs,i,k,y,rfl,rfl,hH,h1,h2,hk,hy,q⟩:=h
 cases rx
 obtain ⟨u,rfl,ru⟩:=rv.one
 obtain ⟨t,rfl⟩:=ru
 obtain ⟨z,its,n,r,hl,e⟩:=I.lstM hH
 obtain ⟨w,hw,rw'⟩:=r.get hy
 refine call_meets F.slot_list_pop ⟨_,e,rfl⟩ F.entry_list_pop (F.args_list_pop_2 _ _)
  (MeetsSeq.list_pop_at l its.toArray n i t k w (fitsIndex_both h1 h2) (by rw [List.size_toArray,<-hl]; exact hk) (by rw [<-Array.getElem?_toList]; exact hw) (by rw [List.size_toArray]; (first|lia|omega))) ⟨e,?_⟩
 refine ⟨y,_,I.lset (its':=its.eraseIdx k) hH e ?_ (r.eraseIdx k) ?_,rw',q⟩
 ·show its.toArray.eraseIdxIfInBounds k=(its.eraseIdx k).toArray
  rw [List.eraseIdxIfInBounds_toArray]
 ·have:=len_erase xs k
  (first|lia|omega)
def rCat:R2:=fun x y H Q=>∃ l b xs zs,x=.ref l/\y=.ref b/\H l=some (.lst xs)/\H b=some (.lst zs)/\xs.length + zs.length<=sizeLine/\∀ p,H p=none->Q (.ref p) (upd H p (.lst (xs ++ zs)))
theorem op_cat:OpR X (binaryOp .Add) rCat:=by
 intro pins s σ H x y v u Q I rx ry h
 obtain ⟨l,b,xs,zs,rfl,rfl,hH,hB,hz,q⟩:=h
 cases rx
 cases ry
 obtain ⟨z,its,n,r,hl,e⟩:=I.lstM hH
 obtain ⟨z2,its2,n2,r2,hl2,e2⟩:=I.lstM hB
 refine PySem.P.add_list e e2 ?_ (by rw [List.size_toArray,List.size_toArray]; (first|lia|omega))
 have ea:its.toArray ++ its2.toArray=(its ++ its2).toArray:=by simp
 rw [ea]
 exact ⟨.ref _,_,I.lnew (t':=s.toks) (r.append r2) (by rw [List.length_append]; (first|lia|omega)),rfl,q _ I.fresh⟩
end
section
variable {prog:Program} {w:World} {A:Around} {E:Value->Shared->Prop} {s:Shared}
set_option maxRecDepth 100000 in
end
section
variable {X:Cx}
end
section
variable {κ:Type} [DecidableEq κ]
def valV (kvs:List (κ × V)) (k:κ):Option V:=(kvs.find? fun kv=>decide (kv.1=k)).map (·.2)
def putK (kvs:List (κ × V)) (k:κ) (v:V):List (κ × V):=
 if (kvs.any fun kv=>decide (kv.1=k))=true then kvs.map (fun kv=>if kv.1=k then (kv.1,v) else kv) else kvs ++ [(k,v)]
def dropK (kvs:List (κ × V)) (k:κ):List (κ × V):=kvs.filter fun kv=>decide (kv.1 ≠ k)
theorem valV_pos {p:κ × V} {r:List (κ × V)} {k:κ} (e:p.1=k):valV (p :: r) k=some p.2:=by simp [valV,List.find?_cons,e]
theorem valV_neg {p:κ × V} {r:List (κ × V)} {k:κ} (e:¬ p.1=k):valV (p :: r) k=valV r k:=by simp [valV,List.find?_cons,e]
theorem valV_any (k:κ):∀ kvs:List (κ × V),(kvs.any fun kv=>decide (kv.1=k))=(valV kvs k).isSome
 | []=>rfl
 | p :: r=>by
  rw [List.any_cons]
  by_cases e:p.1=k
  ·simp only [valV_pos e,decide_eq_true e,Bool.true_or,Option.isSome_some]
  ·rw [valV_neg e,decide_eq_false e,Bool.false_or]; exact valV_any k r
theorem valV_map (k j:κ) (y:V):∀ kvs:List (κ × V),valV (kvs.map fun kv=>if kv.1=k then (kv.1,y) else kv) j=(valV kvs j).map fun x=>if j=k then y else x
 | []=>rfl
 | p :: r=>by
  have ih:=valV_map k j y r
  rw [List.map_cons]
  by_cases h:p.1=k
  ·rw [if_pos h]
   by_cases e:p.1=j
   ·rw [valV_pos (p:=(p.1,y)) e,valV_pos e,Option.map_some,if_pos (e.symm.trans h)]
   ·rw [valV_neg (p:=(p.1,y)) e,valV_neg e,ih]
  ·rw [if_neg h]
   by_cases e:p.1=j
   ·rw [valV_pos (p:=p) e,valV_pos e,Option.map_some,if_neg (fun z=>h (e.trans z))]
   ·rw [valV_neg (p:=p) e,valV_neg e,ih]
theorem valV_snoc (k j:κ) (y:V):∀ kvs:List (κ × V),valV kvs k=none->valV (kvs ++ [(k,y)]) j=if j=k then some y else valV kvs j
 | [],_=>by
  by_cases e:k=j
  ·rw [if_pos e.symm]; exact valV_pos (p:=(k,y)) e
  ·rw [if_neg (fun z=>e z.symm)]; exact valV_neg (p:=(k,y)) e
 | p :: r,hn=>by
  rw [List.cons_append]
  have hk:¬ p.1=k:=fun z=>by rw [valV_pos z] at hn; cases hn
  rw [valV_neg hk] at hn
  have ih:=valV_snoc k j y r hn
  by_cases e:p.1=j
  ·rw [valV_pos e,valV_pos e,if_neg (fun z=>hk (e.trans z))]
  ·rw [valV_neg e,valV_neg e,ih]
theorem valV_put (kvs:List (κ × V)) (k j:κ) (y:V):valV (putK kvs k y) j=if j=k then some y else valV kvs j:=by
 unfold putK
 by_cases a:(kvs.any fun kv=>decide (kv.1=k))=true
 ·rw [if_pos a,valV_map]
  rw [valV_any] at a
  by_cases e:j=k
  ·obtain ⟨x,hx⟩:=Option.isSome_iff_exists.mp a
   rw [if_pos e,e,hx,Option.map_some,if_pos rfl]
  ·rw [if_neg e]
   cases valV kvs j with
   | none=>rfl
   | some x=>rw [Option.map_some,if_neg e]
 ·rw [if_neg a]
  refine valV_snoc k j y kvs ?_
  rw [valV_any] at a
  cases q:valV kvs k with
  | none=>rfl
  | some x=>rw [q] at a; exact (a rfl).elim
theorem length_putK (kvs:List (κ × V)) (k:κ) (v:V):(putK kvs k v).length<=kvs.length + 1:=by
 unfold putK
 split
 ·rw [List.length_map]; (first|lia|omega)
 ·rw [List.length_append,List.length_cons,List.length_nil]; (first|lia|omega)
theorem putK_new {kvs:List (κ × V)} {k:κ} (v:V) (h:valV kvs k=none):putK kvs k v=kvs ++ [(k,v)]:=by
 unfold putK
 rw [valV_any,h]
 exact if_neg (by decide)
theorem RelO.isSome_eq {o:Option V} {u:Option Value} (r:RelO o u):o.isSome=u.isSome:=by
 cases o with
 | none=>cases u with
  | none=>rfl
  | some _=>exact (show False from r).elim
 | some _=>cases u with
  | none=>exact (show False from r).elim
  | some _=>rfl
theorem RelO.getD {o:Option V} {u:Option Value} {d:V} {d':Value} (r:RelO o u) (rd:RelV d d'):RelV (o.getD d) (u.getD d'):=by
 cases o with
 | none=>cases u with
  | none=>exact rd
  | some _=>exact (show False from r).elim
 | some _=>cases u with
  | none=>exact (show False from r).elim
  | some _=>exact r
theorem KV.val {kvs:List (κ × V)} {vs:List (κ × Value)} (r:KV kvs vs) (k:κ):RelO (valV kvs k) (valueAt vs k):=by
 unfold KV at r
 induction r with
 | nil=>exact True.intro
 | @cons p q ps qs h t ih=>
  obtain ⟨h1,h2⟩:=h
  by_cases e:p.1=k
  ·have e':q.1=k:=h1.symm.trans e
   have b:valueAt (q :: qs) k=some q.2:=by simp [valueAt,List.find?_cons,e']
   rw [valV_pos e,b]; exact h2
  ·have e':¬ q.1=k:=fun z=>e (h1.trans z)
   have b:valueAt (q :: qs) k=valueAt qs k:=by simp [valueAt,List.find?_cons,e']
   rw [valV_neg e,b]; exact ih
theorem KV.any {kvs:List (κ × V)} {vs:List (κ × Value)} (r:KV kvs vs) (k:κ):(kvs.any fun kv=>decide (kv.1=k))=vs.any fun kv=>decide (kv.1=k):=by
 unfold KV at r
 induction r with
 | nil=>rfl
 | cons h t ih=>rw [List.any_cons,List.any_cons,ih,h.1]
theorem KV.repl {kvs:List (κ × V)} {vs:List (κ × Value)} (r:KV kvs vs) (k:κ) {y:V} {u:Value} (ry:RelV y u) :
  KV (kvs.map fun kv=>if kv.1=k then (kv.1,y) else kv) (vs.map fun kv=>if kv.1=k then (kv.1,u) else kv):=by
 unfold KV at r ⊢
 induction r with
 | nil=>exact .nil
 | @cons p q ps qs h t ih=>
  rw [List.map_cons,List.map_cons]
  refine .cons ?_ ih
  obtain ⟨h1,h2⟩:=h
  by_cases e:p.1=k
  ·rw [if_pos e,if_pos (h1.symm.trans e)]; exact ⟨h1,ry⟩
  ·rw [if_neg e,if_neg (fun z=>e (h1.trans z))]; exact ⟨h1,h2⟩
theorem KV.put {kvs:List (κ × V)} {vs:List (κ × Value)} (r:KV kvs vs) (k:κ) {y:V} {u:Value} (ry:RelV y u):KV (putK kvs k y) (stored vs k u):=by
 unfold putK stored
 rw [r.any k]
 by_cases e:(vs.any fun kv=>decide (kv.1=k))=true
 ·rw [if_pos e,if_pos e]; exact r.repl k ry
 ·rw [if_neg e,if_neg e]; exact Paired.snoc r ⟨rfl,ry⟩
theorem KV.drop {kvs:List (κ × V)} {vs:List (κ × Value)} (r:KV kvs vs) (k:κ):KV (dropK kvs k) (without vs k):=by
 unfold KV at r ⊢
 unfold dropK without
 induction r with
 | nil=>exact .nil
 | @cons p q ps qs h t ih=>
  obtain ⟨h1,h2⟩:=h
  rw [List.filter_cons,List.filter_cons]
  by_cases e:p.1=k
  ·have a:¬ decide (p.1 ≠ k)=true:=by simp [e]
   have b:¬ decide (q.1 ≠ k)=true:=by simp [h1.symm.trans e]
   rw [if_neg a,if_neg b]; exact ih
  ·have e':¬ q.1=k:=fun z=>e (h1.trans z)
   have a:decide (p.1 ≠ k)=true:=by simp [e]
   have b:decide (q.1 ≠ k)=true:=by simp [e']
   rw [if_pos a,if_pos b]; exact .cons ⟨h1,h2⟩ ih
theorem KV.length {kvs:List (κ × V)} {vs:List (κ × Value)} (r:KV kvs vs):kvs.length=vs.length:=Paired.length r
theorem dropK_le (kvs:List (κ × V)) (k:κ):(dropK kvs k).length<=kvs.length:=List.length_filter_le _ _
end
theorem kV_is {P:Program} {w:World} {k:Key} {u:Value} (r:RelV (kV k) u):(mixKind P w).is k u=true:=by
 cases k with
 | inl i=>obtain ⟨t,e⟩:=(show ∃ t,u=Value.int i t from r); subst e; exact mixKind_int P w i t
 | inr x=>obtain ⟨t,e⟩:=(show ∃ t,u=Value.str x t from r); subst e; exact mixKind_str P w x t
theorem items_are {P:Program} {w:World}:∀ {ks:List Key} {us:List Value},Vals (ks.map kV) us->ItemsAre (mixKind P w) ks us
 | [],_,r=>by rw [List.map_nil] at r; cases r; exact .nil
 | k :: ks,_,r=>by
  rw [List.map_cons] at r
  cases r with
  | cons h t=>exact .cons (kV_is h) (items_are t)
abbrev KT (H:Hp):List (List Key × V)->List (List Key × Addr × Value)->Prop:=Paired fun p q=>p.1=q.1/\H q.2.1=some (.tup (p.1.map kV))/\RelV p.2 q.2.2
theorem KT.val {H:Hp} {kvs:List (List Key × V)} {xs:List (List Key × Addr × Value)} (r:KT H kvs xs) (k:List Key):RelO (valV kvs k) ((atKey xs k).map (·.2)):=by
 induction r with
 | nil=>exact True.intro
 | @cons p q ps qs h t ih=>
  obtain ⟨h1,_,h2⟩:=h
  by_cases e:p.1=k
  ·have e':q.1=k:=h1.symm.trans e
   have b:atKey (q :: qs) k=some q.2:=by simp [atKey,List.find?_cons,e']
   rw [valV_pos e,b]; exact h2
  ·have e':¬ q.1=k:=fun z=>e (h1.trans z)
   have b:atKey (q :: qs) k=atKey qs k:=by simp [atKey,List.find?_cons,e']
   rw [valV_neg e,b]; exact ih
theorem KT.repl {H:Hp} {kvs:List (List Key × V)} {xs:List (List Key × Addr × Value)} (r:KT H kvs xs) (k:List Key) {y:V} {u:Value} (ry:RelV y u) :
  KT H (kvs.map fun kv=>if kv.1=k then (kv.1,y) else kv) (xs.map (putAt k u)):=by
 induction r with
 | nil=>exact .nil
 | @cons p q ps qs h t ih=>
  rw [List.map_cons,List.map_cons]
  refine .cons ?_ ih
  obtain ⟨h1,h2,h3⟩:=h
  unfold putAt
  by_cases e:p.1=k
  ·rw [if_pos e,if_pos (h1.symm.trans e)]; exact ⟨h1,h2,ry⟩
  ·rw [if_neg e,if_neg (fun z=>e (h1.trans z))]; exact ⟨h1,h2,h3⟩
theorem KT.put {H:Hp} {kvs:List (List Key × V)} {xs:List (List Key × Addr × Value)} (r:KT H kvs xs) (k:List Key) {b:Addr} {y:V} {u:Value} (hb:H b=some (.tup (k.map kV))) (ry:RelV y u) :
  KT H (putK kvs k y) (storedH xs k b u):=by
 have e:(kvs.any fun kv=>decide (kv.1=k))=(atKey xs k).isSome:=by
  rw [valV_any,(r.val k).isSome_eq,Option.isSome_map]
 unfold putK storedH
 rw [e]
 by_cases q:(atKey xs k).isSome=true
 ·rw [if_pos q,if_pos q]; exact r.repl k ry
 ·rw [if_neg q,if_neg q]; exact Paired.snoc r ⟨rfl,hb,ry⟩
theorem KT.keeps {H H':Hp} {kvs:List (List Key × V)} {xs:List (List Key × Addr × Value)} (r:KT H kvs xs) (ht:∀ b ys,H b=some (.tup ys)->H' b=some (.tup ys)):KT H' kvs xs:=
 Paired.mapP r fun _ _ z=>⟨z.1,ht _ _ z.2.1,z.2.2⟩
section
variable {P:Program} {w:World} {H:Hp} {h:Heap} {a:Addr}
theorem rd_of {u:HO} (ok:HOk P w H h) (e:Rd H a u):ObjOk P w H h a u:=e.ok ok
theorem dk_rd {kvs:List (Key × V)} (ok:HOk P w H h) (e:Rd H a (.dK kvs)):kvs.length<=sizeLine/\(a == sysModules)=false/\∃ vs,KV kvs vs/\h.DictOf (mixKind P w) a vs:=
 show ObjOk P w H h a (.dK kvs) from rd_of ok e
theorem dk_of {kvs:List (Key × V)} (ok:HOk P w H h) (e:H a=some (.dK kvs)):kvs.length<=sizeLine/\(a == sysModules)=false/\∃ vs,KV kvs vs/\h.DictOf (mixKind P w) a vs:=dk_rd ok (.inl e)
theorem key_of {ks:List Key} (ok:HOk P w H h) (e:H a=some (.tup (ks.map kV))):(tupleKind (mixKind P w)).is h ks a:=by
 obtain ⟨_,its,r,⟨o,h1,h2,n,h3⟩,_⟩:=(show ObjOk P w H h a (.tup (ks.map kV)) from ok a _ e)
 exact ⟨o,its.toArray,n,h1,h2,h3,by simpa using items_are r⟩
theorem dt_rd {kvs:List (List Key × V)} (ok:HOk P w H h) (e:Rd H a (.dT kvs)):kvs.length<=sizeLine/\(a == sysModules)=false /\
  ∃ xs,KT H kvs xs/\h.DictOfH (tupleKind (mixKind P w)) a xs:=by
 obtain ⟨z,y,xs,r,o,es,ep,h1,h2,h3,h4,h5⟩:=(show ObjOk P w H h a (.dT kvs) from rd_of ok e)
 refine ⟨z,y,xs,r,o,es,ep,h1,h2,h3,h4,fun x hx=>?_,h5⟩
 have all:∀ {l:List (List Key × V)} {m:List (List Key × Addr × Value)},KT H l m->∀ x ∈ m,(tupleKind (mixKind P w)).is h x.1 x.2.1:=by
  intro l m q
  induction q with
  | nil=>intro x hx; exact nomatch hx
  | @cons p q ps qs hq t ih=>
   intro x hx
   rcases List.mem_cons.mp hx with e | hx
   ·subst e
    exact key_of ok (by rw [<-hq.1]; exact hq.2.1)
   ·exact ih x hx
 exact all r x hx
theorem dt_of {kvs:List (List Key × V)} (ok:HOk P w H h) (e:H a=some (.dT kvs)):kvs.length<=sizeLine/\(a == sysModules)=false /\
  ∃ xs,KT H kvs xs/\h.DictOfH (tupleKind (mixKind P w)) a xs:=dt_rd ok (.inl e)
end
def DGet (H:Hp) (a:Addr) (y:V) (r:Option V):Prop:=
 (∃ kvs k,Rd H a (.dK kvs)/\y=kV k/\r=valV kvs k)\/∃ kvs k b,Rd H a (.dT kvs)/\y=.ref b/\H b=some (.tup (k.map kV))/\r=valV kvs k
def DPut (H:Hp) (a:Addr) (y v:V) (H':Hp):Prop:=
 (∃ kvs k,H a=some (.dK kvs)/\y=kV k/\kvs.length < sizeLine/\H'=upd H a (.dK (putK kvs k v))) \/
 ∃ kvs k b,H a=some (.dT kvs)/\y=.ref b/\H b=some (.tup (k.map kV))/\kvs.length < sizeLine/\H'=upd H a (.dT (putK kvs k v))
theorem DGet.k {H:Hp} {a:Addr} {kvs:List (Key × V)} {k:Key} (e:H a=some (.dK kvs)):DGet H a (kV k) (valV kvs k):=.inl ⟨kvs,k,.inl e,rfl,rfl⟩
theorem DGet.t {H:Hp} {a b:Addr} {kvs:List (List Key × V)} {k:List Key} (e:H a=some (.dT kvs)) (eb:H b=some (.tup (k.map kV))):DGet H a (.ref b) (valV kvs k):=.inr ⟨kvs,k,b,.inl e,rfl,eb,rfl⟩
theorem DPut.k {H:Hp} {a:Addr} {kvs:List (Key × V)} {k:Key} {v:V} (e:H a=some (.dK kvs)) (hl:kvs.length < sizeLine):DPut H a (kV k) v (upd H a (.dK (putK kvs k v))):=.inl ⟨kvs,k,e,rfl,hl,rfl⟩
theorem DPut.t {H:Hp} {a b:Addr} {kvs:List (List Key × V)} {k:List Key} {v:V} (e:H a=some (.dT kvs)) (eb:H b=some (.tup (k.map kV))) (hl:kvs.length < sizeLine) :
  DPut H a (.ref b) v (upd H a (.dT (putK kvs k v))):=.inr ⟨kvs,k,b,e,rfl,eb,hl,rfl⟩
section
variable {X:Cx} {pins:List (Addr × Obj)} {σ:St} {H:Hp} {s:Shared} {a:Addr} {y v:V} {u r:Value} {o:Option V} {A:Around} {E:Value->Shared->Prop}
theorem Inv.big (I:Inv X pins σ H s):sysModules < s.heap.objs.size:=by
 have h:mainGlobals < s.heap.objs.size:=(I.mod.glob.keeps I.bk).lt
 exact Nat.lt_trans (by decide) h
theorem d_getItem {Q:Value->Shared->Prop} (hu:A.units + 1 < cLine) (I:Inv X pins σ H s) (g:DGet H a y (some v)) (ry:RelV y u) (h:∀ w' s',Inv X pins σ H s'->RelV v w'->Q w' s') :
  wpAny (model X.prog X.w) A (getItem (.ref a) u) Q E s:=by
 rcases g with ⟨kvs,k,e,ey,l⟩ | ⟨kvs,k,b,e,ey,eb,l⟩
 ·subst ey
  obtain ⟨z,hd,vs,rel,dd⟩:=dk_rd I.hok e
  obtain ⟨w',hw,rw'⟩:=RelO.some_of (v:=v) (o:=valueAt vs k) (by rw [l]; exact rel.val k)
  exact wpAny_getItem_of (kV_is ry) dd.mapOf hw (h w' _ (I.tok _) rw')
 ·subst ey
  cases (show u=Value.ref b from ry)
  obtain ⟨z,hd,xs,rel,dd⟩:=dt_rd I.hok e
  obtain ⟨w',hw,rw'⟩:=RelO.some_of (v:=v) (o:=(atKey xs k).map (·.2)) (by rw [l]; exact rel.val k)
  obtain ⟨p,hp,hp2⟩:=Option.map_eq_some_iff.mp hw
  refine wpAny_getItem_heap (tupleKind_room_in1 hu) (key_of I.hok eb) dd hp ?_
  rw [hp2]
  exact h w' _ (I.tok _) rw'
theorem d_notIn {Q:Value->Shared->Prop} (hu:A.units + 1 < cLine) (I:Inv X pins σ H s) (g:DGet H a y o) (ry:RelV y u) (h:∀ s',Inv X pins σ H s'->Q (.bool (!o.isSome)) s') :
  wpAny (model X.prog X.w) A (compareOp .NotIn u (.ref a)) Q E s:=by
 rcases g with ⟨kvs,k,e,ey,l⟩ | ⟨kvs,k,b,e,ey,eb,l⟩
 ·subst ey
  obtain ⟨z,hd,vs,rel,dd⟩:=dk_rd I.hok e
  refine wpAny_notIn_of (kV_is ry) hd dd.mapOf ?_
  rw [<-(rel.val k).isSome_eq,<-l]
  exact h _ (I.tok _)
 ·subst ey
  cases (show u=Value.ref b from ry)
  obtain ⟨z,hd,xs,rel,dd⟩:=dt_rd I.hok e
  refine wpAny_notIn_heap (tupleKind_room_in1 hu) (key_of I.hok eb) hd dd ?_
  have q:=(rel.val k).isSome_eq
  rw [Option.isSome_map] at q
  rw [<-q,<-l]
  exact h _ (I.tok _)
theorem d_write {h':Heap} {t':Nat} {ob:HO} (I:Inv X pins σ H s) (mu:Mut (H a)) (hs:Heap.SameBut a s.heap h') (he:∃ q,h'.get? a=some q) (new:ObjOk X.prog X.w (upd H a ob) h' a ob) :
  Inv X pins σ (upd H a ob) { s with heap:=h',toks:=t' }:=
 I.write (x:=a) (e:=a) mu (.inl rfl) (fun b q hb z=>(hs.2 b hb).trans z) he new
theorem dk_new {P:Program} {w:World} {H':Hp} {h':Heap} {kvs:List (Key × V)} {vs:List (Key × Value)} (z:kvs.length<=sizeLine) (hd:(a == sysModules)=false) (rel:KV kvs vs) (dd:h'.DictOf (mixKind P w) a vs) :
  ObjOk P w H' h' a (.dK kvs):=⟨z,hd,vs,rel,dd⟩
theorem d_setItem {H':Hp} {Q:Unit->Shared->Prop} (hu:A.units + 1 < cLine) (I:Inv X pins σ H s) (g:DPut H a y v H') (ry:RelV y u) (rv:RelV v r) (h:∀ s',Inv X pins σ H' s'->Q () s') :
  wpAny (model X.prog X.w) A (setItem (.ref a) u r) Q E s:=by
 rcases g with ⟨kvs,k,e,ey,l,eH⟩ | ⟨kvs,k,b,e,ey,eb,l,eH⟩
 ·subst ey eH
  obtain ⟨z,hd,vs,rel,dd⟩:=dk_of I.hok e
  have hz:vs.length<=sizeLine:=by rw [<-rel.length]; exact z
  have hl:(putK kvs k v).length<=sizeLine:=by have:=length_putK kvs k v; (first|lia|omega)
  refine wpAny_setItem_pairs (hsz:=hz) (kV_is ry) dd fun h' dd' hs=>h _ ?_
  have he:∃ q,h'.get? a=some q:=let ⟨q,_,_,hq,_⟩:=dd'; ⟨q,hq⟩
  exact d_write I (by rw [e]; exact True.intro) hs he (dk_new hl hd (rel.put k rv) dd')
 ·subst ey eH
  cases (show u=Value.ref b from ry)
  obtain ⟨z,hd,xs,rel,dd⟩:=dt_of I.hok e
  have hz:xs.length<=sizeLine:=by rw [<-Paired.length rel]; exact z
  have hl:(putK kvs k v).length<=sizeLine:=by have:=length_putK kvs k v; (first|lia|omega)
  refine wpAny_setItem_heap (hsz:=hz) (tupleKind_room_in1 hu) (key_of I.hok eb) dd fun h' dd' hs=>h _ ?_
  obtain ⟨q,es,ep,hq,h2,h3,h4,_,h5⟩:=dd'
  refine d_write I (by rw [e]; exact True.intro) hs ⟨q,hq⟩ ⟨hl,hd,_,(rel.put k eb rv).keeps fun c ys ec=>?_,q,es,ep,hq,h2,h3,h4,h5⟩
  rw [upd_ne (ne_of ec e (fun z=>nomatch z))]
  exact ec
end
section
variable {X:Cx} {pins:List (Addr × Obj)} {σ:St} {H:Hp} {s:Shared} {a:Addr} {kvs:List (Key × V)} {k:Key} {u:Value} {A:Around} {E:Value->Shared->Prop}
theorem d_delItem {Q:Unit->Shared->Prop} (I:Inv X pins σ H s) (e:H a=some (.dK kvs)) (ry:RelV (kV k) u) (l:(valV kvs k).isSome=true) (h:∀ s',Inv X pins σ (upd H a (.dK (dropK kvs k))) s'->Q () s') :
  wpAny (model X.prog X.w) A (delItem (.ref a) u) Q E s:=by
 obtain ⟨z,hd,vs,rel,dd⟩:=dk_of I.hok e
 refine wpAny_delItem_slot dd.typeIs (by decide) PySem.F.slot_dict_delitem
  (call_meetsIn PySem.F.slot_dict_delitem dd.typeIs PySem.F.entry_dict_delitem (PySem.F.args_dict_delitem_2 _ _) (meets_dict_delitem_pairs (mixKind X.prog X.w) a (kV_is ry)) ⟨vs,dd,by rw [<-rel.length]; exact z,by rw [<-(rel.val k).isSome_eq]; exact l,fun h' dd' hs=>h _ ?_⟩)
 have he:∃ q,h'.get? a=some q:=let ⟨q,_,_,hq,_⟩:=dd'; ⟨q,hq⟩
 exact d_write I (by rw [e]; exact True.intro) hs he (dk_new (Nat.le_trans (dropK_le kvs k) z) hd (rel.drop k) dd')
end
def NoSl (i:Expr):Prop:=∀ ov iv,subscripted i false ov iv=operate [ov,iv] (getItem ov iv)
theorem subD_of {prog:Program} {w:World} {A:Around} {E:Value->Shared->Prop} {s:Shared} {env:Env} {value slice:Expr} {pos:Pos} {T id:String} {Q:Value->Shared->Prop}
  (hl:typeLookup (.type T) "__getitem__"=pure (some (.builtin id))) (hs:NoSl slice)
  (h:wpAny (model prog w) A (eval value env) (fun o s₁=>wpAny (model prog w) A (eval slice env) (fun i s₂=>s₂.TypeIs o T/\wpAny (model prog w) A (getItem o i) Q E s₂) E s₁) E s) :
  wpAny (model prog w) A (eval (.Subscript value slice pos) env) Q E s:=by
 refine Subscript_ (wpAny_mono h (fun o s₁ h₁=>wpAny_mono h₁ (fun i s₂ h₂=>?_) fun _ _ x=>x) fun _ _ x=>x)
 obtain ⟨hT,h₂⟩:=h₂
 unfold subscriptTail
 refine wpAny_bind ?_
 rw [getitemInPython_of_ne hT.not_modules]
 refine wpAny_bind (wpAny_specialOf hT hl ?_)
 have fin:wpAny (model prog w) A (subscripted slice false o i) (fun r s₃=>wpAny (model prog w) A (letTemporaryGo value o r >>= fun _=>pure r) Q E s₃) E s₂:=by
  rw [hs o i]
  exact wpAny_operating (wpAny_mono h₂ (fun r s₃ h₃=>wpAny_bind (wpAny_letTemporaryGo (wpAny_pure h₃))) fun _ _ x=>x)
 first
  | exact wpAny_pure (wpAny_bind fin)
  | exact wpAny_bind (wpAny_pure (wpAny_bind fin))
  | exact wpAny_bind fin
theorem dict_typeIs {X:Cx} {pins:List (Addr × Obj)} {σ:St} {H:Hp} {s:Shared} {a:Addr} {y:V} {o:Option V} (I:Inv X pins σ H s) (g:DGet H a y o):s.TypeIs (.ref a) "dict":=by
 rcases g with ⟨kvs,k,e,_,_⟩ | ⟨kvs,k,b,e,_,_,_⟩
 ·obtain ⟨_,_,vs,_,dd⟩:=dk_rd I.hok e
  exact dd.typeIs
 ·obtain ⟨_,_,xs,_,dd⟩:=dt_rd I.hok e
  exact dd.typeIs
def tDGet (td ty:TE):TE:=fun σ H Q=>td σ H fun x H1=>ty σ H1 fun y H2=>∃ a v,x=.ref a/\DGet H2 a y (some v)/\Q v H2
def tDNotIn (ty td:TE):TE:=fun σ H Q=>ty σ H fun y H1=>td σ H1 fun x H2=>∃ a o,x=.ref a/\DGet H2 a y o/\Q (.bl (!o.isSome)) H2
def sDPut (td ty tv:TE):TS:=fun D σ H=>tv σ H fun v H1=>td σ H1 fun x H2=>ty σ H2 fun y H3=>∃ a H4,x=.ref a/\DPut H3 a y v H4/\D.nx σ H4
def sDDel (td ty:TE):TS:=fun D σ H=>td σ H fun x H1=>ty σ H1 fun y H2=>∃ a kvs k,x=.ref a/\H2 a=some (.dK kvs)/\y=kV k/\(valV kvs k).isSome=true/\D.nx σ (upd H2 a (.dK (dropK kvs k)))
section
variable {X:Cx} {o i e value:Expr} {pos pos' tpos:Pos} {td ty tv:TE}
theorem pe_dget (hu:X.A.units + 1 < cLine) (ho:PE X o td) (hi:PE X i ty) (hs:NoSl i):PE X (.Subscript o i pos) (tDGet td ty):=by
 intro pins s σ H Q I h
 refine subD_of PySem.F.slot_dict_getitem.lookup hs (thn (ho pins s σ H _ I h) fun u s1 ⟨x,H1,I1,rx,q1⟩=>thn (hi pins s1 σ H1 _ I1 q1) fun iv s2 ⟨y,H2,I2,ry,a,v,ex,g,q2⟩=>?_)
 subst ex
 obtain rfl:u=Value.ref a:=rx
 exact ⟨dict_typeIs I2 g,d_getItem hu I2 g ry fun w' s3 I3 rw'=>⟨v,H2,I3,rw',q2⟩⟩
theorem pc_dnotin (hu:X.A.units + 1 < cLine) (hi:PE X i ty) (ho:PE X o td):PC X .NotIn i o (tDNotIn ty td):=by
 intro pins s σ H Q I h
 refine thn (hi pins s σ H _ I h) fun iv s1 ⟨y,H1,I1,ry,q1⟩=>thn (ho pins s1 σ H1 _ I1 q1) fun u s2 ⟨x,H2,I2,rx,a,ov,ex,g,q2⟩=>?_
 subst ex
 obtain rfl:u=Value.ref a:=rx
 exact d_notIn hu I2 g ry fun s3 I3=>⟨.bl (!ov.isSome),H2,I3,rfl,q2⟩
theorem ps_dput (hu:X.A.units + 1 < cLine) (ho:PE X o td) (hi:PE X i ty) (hv:PE X value tv) (hs:swapsWith value (some (.Subscript o i pos')) pos.line X.env=pure false) :
  PS X (.Assign [.Subscript o i pos'] value pos) (sDPut td ty tv):=by
 intro pins s σ H D I h
 refine wpAny_Assign_Subscript (thn (hv pins s σ H _ I h) fun r s1 ⟨v,H1,I1,rv,q1⟩=>thn (ho pins s1 σ H1 _ I1 q1) fun u s2 ⟨x,H2,I2,rx,q2⟩=>thn (hi pins s2 σ H2 _ I2 q2) fun iv s3 ⟨y,H3,I3,ry,a,H4,ex,g,q3⟩=>?_) hs
 subst ex
 obtain rfl:u=Value.ref a:=rx
 exact d_setItem hu I3 g ry rv fun s4 I4=>⟨σ,H4,I4,q3⟩
theorem ps_ddel (ho:PE X o td) (hi:PE X i ty):PS X (.Delete [.Subscript o i tpos] pos) (sDDel td ty):=by
 intro pins s σ H D I h
 refine wpAny_Delete (wpAny_deleteEach_cons (wpAny_delete_Subscript (thn (ho pins s σ H _ I h) fun u s1 ⟨x,H1,I1,rx,q1⟩=>thn (hi pins s1 σ H1 _ I1 q1) fun iv s2 ⟨y,H2,I2,ry,a,kvs,k,ex,e,ey,l,q2⟩=>?_)))
 subst ex ey
 obtain rfl:u=Value.ref a:=rx
 exact d_delItem I2 e ry l fun s3 I3=>wpAny_deleteEach_nil ⟨σ,_,I3,q2⟩
end
theorem dk_empty {P:Program} {w:World} {H:Hp} (h:Heap) (hb:sysModules < h.objs.size):ObjOk P w H (h.push { cls:=.type "dict",data:=.dict #[] }) h.objs.size (.dK []):=
 ⟨Nat.zero_le _,beq_eq_false_iff_ne.mpr (Ne.symm (Nat.ne_of_lt hb)),[],.nil,Heap.DictOf.new h⟩
theorem dt_empty {P:Program} {w:World} {H:Hp} (h:Heap) (hb:sysModules < h.objs.size):ObjOk P w H (h.push { cls:=.type "dict",data:=.dict #[] }) h.objs.size (.dT []):=
 ⟨Nat.zero_le _,beq_eq_false_iff_ne.mpr (Ne.symm (Nat.ne_of_lt hb)),[],.nil,_,#[],0,Heap.get?_push_size _ rfl,⟨rfl,rfl,rfl⟩,rfl,rfl,List.nodup_nil⟩
def tDNewK:TE:=fun _ H Q=>∀ p,H p=none->Q (.ref p) (upd H p (.dK []))
def tDNewT:TE:=fun _ H Q=>∀ p,H p=none->Q (.ref p) (upd H p (.dT []))
section
variable {X:Cx} {pos:Pos}
theorem pe_dnewK:PE X (.Dict [] [] pos) tDNewK:=fun pins s σ H Q I h=>
 wpAny_Dict_empty ⟨.ref s.heap.objs.size,_,I.laid (a:=s.heap.objs.size) (o:=.dK []) (t':=s.toks) (fun _ _ q=>Heap.get?_push_of_some _ q) (Nat.le_refl _) (dk_empty s.heap I.big),rfl,h _ (I.hok.fresh (Nat.le_refl _))⟩
theorem pe_dnewT:PE X (.Dict [] [] pos) tDNewT:=fun pins s σ H Q I h=>
 wpAny_Dict_empty ⟨.ref s.heap.objs.size,_,I.laid (a:=s.heap.objs.size) (o:=.dT []) (t':=s.toks) (fun _ _ q=>Heap.get?_push_of_some _ q) (Nat.le_refl _) (dt_empty s.heap I.big),rfl,h _ (I.hok.fresh (Nat.le_refl _))⟩
end
def mergeK (kvs more:List (Key × V)):List (Key × V):=more.foldl (fun acc kv=>putK acc kv.1 kv.2) kvs
structure M2 (X:Cx) (o:Expr) (m:Str) (apos:Pos) (e f:Expr) (cpos:Pos):Prop where
 base:attributeBase o m X.env (eval o X.env)=eval o X.env
 few:((backTo cpos (starEach [e,f] X.env)).all (fun x=>!x.1) && (backToKw cpos (keywordEach [] X.env)).all (fun x=>x.1.isSome)
  && decide (([e,f]:List Expr).length + ([]:List Keyword).length + (if ([]:List Keyword).isEmpty then 0 else 1) < 30))=true
 line:(apos.endLine == cpos.line)=true
 trees:backTo cpos (starEach [e,f] X.env)=[(false,eval e X.env),(false,eval f X.env)]
def IsD (H:Hp) (a:Addr):Prop:=(∃ kvs,Rd H a (.dK kvs))\/∃ kvs,Rd H a (.dT kvs)
theorem isD_at {X:Cx} {pins:List (Addr × Obj)} {σ:St} {H:Hp} {s:Shared} {a:Addr} (I:Inv X pins σ H s) (d:IsD H a) :
  s.TypeIs (.ref a) "dict"/\(∀ b,Value.ref a=.ref b->∃ ob,s.heap.get? b=some ob/\ob.dict=none)/\(a == sysModules)=false:=by
 rcases d with ⟨kvs,e⟩ | ⟨kvs,e⟩
 ·obtain ⟨_,hd,vs,_,dd⟩:=dk_rd I.hok e
  refine ⟨dd.typeIs,fun b q=>?_,hd⟩
  cases q
  obtain ⟨ob,_,_,h1,h2,_⟩:=dd
  exact ⟨ob,h1,h2.2.1⟩
 ·obtain ⟨_,hd,xs,_,dd⟩:=dt_rd I.hok e
  refine ⟨dd.typeIs,fun b q=>?_,hd⟩
  cases q
  obtain ⟨ob,_,_,h1,h2,_⟩:=dd
  exact ⟨ob,h1,h2.2.1⟩
section
variable {X:Cx} {pins:List (Addr × Obj)} {σ:St} {H:Hp} {s:Shared} {a:Addr} {y d:V} {u r:Value} {o:Option V} {A:Around} {E:Value->Shared->Prop}
theorem d_get2 {Q:Value->Shared->Prop} (hu:A.units + 1 < cLine) (I:Inv X pins σ H s) (g:DGet H a y o) (ry:RelV y u) (rd:RelV d r) (h:∀ w' s',Inv X pins σ H s'->RelV (o.getD d) w'->Q w' s') :
  wpAny (model X.prog X.w) A (call (.builtin "dict.get") [.ref a,u,r]) Q E s:=by
 rcases g with ⟨kvs,k,e,ey,l⟩ | ⟨kvs,k,b,e,ey,eb,l⟩
 ·subst ey
  obtain ⟨z,hd,vs,rel,dd⟩:=dk_rd I.hok e
  refine call_meetsIn PySem.F.slot_dict_get dd.typeIs PySem.F.entry_dict_get (PySem.F.args_dict_get_3 _ _ _) (meets_dict_get_default (mixKind X.prog X.w) a (kV_is ry) hd r) ⟨_,dd.mapOf,h _ _ (I.tok _) ?_⟩
  rw [l]
  exact (rel.val k).getD rd
 ·subst ey
  cases (show u=Value.ref b from ry)
  obtain ⟨z,hd,xs,rel,dd⟩:=dt_rd I.hok e
  refine call_meetsIn PySem.F.slot_dict_get dd.typeIs PySem.F.entry_dict_get (PySem.F.args_dict_get_3 _ _ _) (meetsH_dict_get_default (tupleKind (mixKind X.prog X.w)) a b hd r) ⟨tupleKind_room_in1 hu,k,xs,key_of I.hok eb,dd,h _ _ (I.tok _) ?_⟩
  rw [l]
  exact (rel.val k).getD rd
end
def tDGet2 (td ty tx:TE):TE:=fun σ H Q=>td σ H fun x H1=>∃ a,x=.ref a/\IsD H1 a/\ty σ H1 fun y H2=>tx σ H2 fun z H3=>∃ o,DGet H3 a y o/\Q (o.getD z) H3
section
variable {X:Cx} {o e f:Expr} {apos cpos:Pos} {td ty tx:TE}
theorem pe_dget2 (hu:X.A.units + 1 < cLine) (ho:PE X o td) (he:PE X e ty) (hf:PE X f tx) (m:M2 X o "get" apos e f cpos):PE X (.Call (.Attribute o "get" apos) [e,f] [] cpos) (tDGet2 td ty tx):=by
 intro pins s σ H Q I h
 refine wpAny_Call_method m.base m.few m.line PySem.F.plainAttrs_dict PySem.F.slot_dict_get PySem.F.type_dict_get (thn (ho pins s σ H _ I h) fun u s1 ⟨x,H1,I1,rx,a,ex,d,q1⟩=>?_)
 subst ex
 obtain rfl:u=Value.ref a:=rx
 obtain ⟨t1,t2,_⟩:=isD_at I1 d
 refine ⟨t1,t2,?_⟩
 rw [m.trees]
 refine Calls.callWith_builtin rfl (Calls.evalArgs_plain (Calls.spliced_cons (thn (he pins s1 σ H1 _ I1 q1) fun iv s2 ⟨y,H2,I2,ry,q2⟩=>
  Calls.spliced_cons (thn (hf pins s2 σ H2 _ I2 q2) fun fv s3 ⟨z,H3,I3,rz,ov,g,q3⟩=>Calls.spliced_nil ?_))))
 exact d_get2 hu I3 g ry rz fun w' s4 I4 rw'=>⟨_,H3,I4,rw',q3⟩
end
section
variable {X:Cx} {pins:List (Addr × Obj)} {σ:St} {H:Hp} {s:Shared} {a:Addr} {kvs:List (Key × V)} {A:Around} {E:Value->Shared->Prop}
end
section
variable {X:Cx} {pins:List (Addr × Obj)} {σ:St} {H:Hp} {s:Shared} {a:Addr} {y:V} {u:Value} {A:Around} {E:Value->Shared->Prop}
end
end L2
namespace Att
open PySem PySem.W PySem.Calls PyProof.Rows
theorem ints_of_wellAll {P:Params} {h:Heap}:∀ (ns:List Int) (vs:List Value),WellAll P h vs (ns.map WData.int)->IntsAre vs ns:=by
 intro ns
 induction ns with
 | nil=>
  intro vs w
  rw [List.map_nil] at w
  cases w
  exact .nil
 | cons n ns ih=>
  intro vs w
  rw [List.map_cons] at w
  cases w with
  | cons a b=>
   cases a
   exact .cons _ _ (ih _ b)
theorem script_of {l:OpenLaw} {n:Nat} (hn:l.most=some n) {P:Params} {h:Heap} {args:List WData} {vals:List Value}
  (hpre:l.row.toRowW.claim.pre args=true) (hwl:WellAll P h vals args) :
  ∃ a vs ns,vals=[Value.ref a]/\args=[WData.list (ns.map WData.int)]/\h.get? a=some { cls:=.type "list",data:=.seq vs.toArray }/\IntsAre vs ns/\ns.length<=n:=by
 have hsh:WShape.hasAll [] args [.list .int]=true:=(pre_splitW hpre).1
 have hc:l.pre.holds [] { args:=args } = true:=(pre_splitW hpre).2
 obtain ⟨d,r,rfl,h1,h2⟩:=hasAllW_cons hsh
 obtain rfl:=hasAllW_nil h2
 obtain ⟨xs,rfl,h3⟩:=hasW_list h1
 obtain ⟨ns,rfl⟩:=items_int h3
 have hlen:ns.length<=n:=by
  unfold OpenLaw.pre at hc
  have h4:(WTm.not (.lt (.lit (.int (n:Int))) (.len (.arg 0)))).holds [] { args:=[.list (ns.map .int)] } = true:=by
   have h4:=(holds_andW hc).1
   rw [hn] at h4
   exact h4
  have h5:=condW_of h4 (w_not (w_lt w_lit (w_len_list (w_arg rfl))))
  rw [List.length_map] at h5
  refine Nat.le_of_not_lt fun q=>?_
  have q':(n:Int) < ((ns.length:Nat):Int):=by (first|lia|omega)
  first
   | (rw [decide_eq_true q'] at h5; exact absurd h5 (by decide))
   | (simp at h5; (first|lia|omega))
 cases hwl with
 | cons w1 w2=>
  cases w2
  cases w1 with
  | list ho hall=>exact ⟨_,_,ns,rfl,rfl,ho,ints_of_wellAll ns _ hall,hlen⟩
theorem post_true (l:OpenLaw) (args:List WData):l.row.toRowW.claim.post args (.bool true) args=true:=
 postW_of (r:=l.row.toRowW) (X:=(true == true))
  (show WShape.has [] (.bool true) .bool=true by first | rfl | decide | simp [WShape.has,WShape.arms,WShape.armsAll])
  (show (WTm.eq .res (.lit (.bool true))).value [] { args:=args,res:=some (.bool true),after:=args } = some (.bool (true == true)) from w_eq_bool (w_res rfl) w_lit) rfl
theorem attach_call {l:OpenLaw} {n:Nat} {q:Program} {loose:List Str} {XP:(Str->Option Value)->Heap->Prop} {YP:World->Heap->Prop} {d:DefRec}
  (hn:l.most=some n) (hdf:d.params.defaults=[])
  (call:∀ (w:World) (s₀ s₁:Shared) (mg mb:Str->Option Value) (fa:Addr) (o:Obj) (pm cd doc:Value) (a:Addr) (vs:List Value) (ns:List Int),
   Ground q loose [] XP w s₀ mg mb s₁.heap->YP w s₁.heap ->
   s₁.heap.get? fa=some o->o.data=.func (docDef d.name d.params d.body d.scope pm cd doc)->s₁.heap.CodeRec cd d.name->mg d.name=some (.ref fa) ->
   s₁.heap.get? a=some { cls:=.type "list",data:=.seq vs.toArray }->IntsAre vs ns->ns.length<=n->s₁.gens=#[] ->
   codeAny (model l.prog w) callerA (.call (.ref fa) ⟨[.ref a],[]⟩) (fun r s'=>r=.ok (.ret (.bool true))/\OldK s₁.heap s'.heap/\s'.os=s₁.os/\AllBare s'.gens) s₁) :
  WalkO q loose XP YP l.row.toRowW d [] (fun f vs=>PySem.call f vs):=by
 intro w s₀ s₁ mg mb G Y fa o pm cd doc dV kV ho hd hcd hD hmg hg args vals as hpre hlay hrd hwl hlo
 obtain rfl:dV=.none:=Dflts.none hD hdf
 obtain rfl:kV=.none:=Dflts.noKw hD
 obtain ⟨a,vs,ns,rfl,rfl,hobj,hints,hlen⟩:=script_of hn hpre hwl
 refine enter_call (codeAny_mono (call w s₀ s₁ mg mb fa o pm cd doc a vs ns G Y ho (fd_plain hd) hcd hmg hobj hints hlen hg) fun r s' hq=>?_)
 obtain ⟨rfl,h2,h3,h4⟩:=hq
 exact ⟨.inl ⟨.bool true,.bool true,[],rfl,fun _=>rfl,.bool true,post_true l _,fun _=>⟨List.Pairwise.nil,fun _ hm=>(nomatch hm)⟩⟩,h2,h3,h4⟩
section
variable {prog:Program} {w:World} {A:Around} {E:Value->Shared->Prop} {s:Shared} {K:Frag}
end
end Att
namespace L2
open PySem PySem.Spec PyProof.Rows
theorem vals_ints:∀ {vs:List Value} {ns:List Int},IntsAre vs ns->Vals (ns.map V.int) vs
 | _,_,.nil=>.nil
 | _,_,.cons n t h=>.cons ⟨t,rfl⟩ (vals_ints h)
def Only (H:Hp):Prop:=∀ b,H b=none\/∃ o xs,H b=some (.frz o (.lst xs))
theorem law_call {P:Program} {w:World} {K:PySem.W.Frag} {mg mb:Str->Option Value} {CX:CXT} {k:Nat} {fa a:Addr} {fd:FuncData} {x:Str} {sp:Sp} {s₁:Shared} {vs:List Value} {ns:List Int}
  (KX:K.In s₁.heap) (hns:s₁.heap.Ns mainGlobals mg) (hb:s₁.heap.Ns builtinsNs mb) (hbb:∀ x:Str,x ≠ "__name__"->mb x=bootBuiltins x) (hlim:s₁.heap.NoLimit) (hg:s₁.gens=#[])
  (ha:s₁.heap.get? a=some { cls:=.type "list",data:=.seq vs.toArray }) (hi:IntsAre vs ns) (hl:ns.length<=sizeLine) (hr:Room k callerA)
  (F:∀ base:Heap,K.In base->base.Ns mainGlobals mg->FnOk P w K mg base CX k fa fd [x] sp) (hbind:∀ (s:Shared) (u:Value),BindsTo s fd ⟨[u],[]⟩ [(x,u)])
  (hsp:∀ H:Hp,Only H->SqL K H a (ns.map V.int)->sp [.ref a] H (fun v _=>v=.bl true) fun _ _ _=>False)
  (hCX:∀ H e s',CX [] H s₁ (fun _ _ _=>False) e s'->False) :
  codeAny (model P w) callerA (.call (.ref fa) ⟨[.ref a],[]⟩) (fun r s'=>r=.ok (.ret (.bool true))/\OldK s₁.heap s'.heap/\s'.os=s₁.os/\AllBare s'.gens) s₁:=by
 have rv:=vals_ints hi
 have lenV:=hi.length
 have core:∀ H:Hp,Only H->SqL K H a (ns.map V.int)->HOk P w H s₁.heap->(∀ b,H b ≠ none->b=a)->(H a ≠ none->K.lookup a=none) ->
   codeAny (model P w) callerA (.call (.ref fa) ⟨[.ref a],[]⟩) (fun r s'=>r=.ok (.ret (.bool true))/\OldK s₁.heap s'.heap/\s'.os=s₁.os/\AllBare s'.gens) s₁:=by
  intro H hO hS hok hA hK
  have base_of:∀ {b:Addr} {o:Obj},s₁.heap.get? b=some o->H b=none->(hidT s₁.heap H).get? b=some o:=fun e n=>hidT_get e n
  have noA:∀ {b:Addr} {o:Obj} {es:Array DictEntry} {ep:Nat},s₁.heap.get? b=some o->o.data=.dict es ep->H b=none:=fun {b o es ep} e d=>by
   cases q:H b with
   | none=>rfl
   | some u=>
    have e':b=a:=hA b (by rw [q]; simp)
    subst e'
    rw [ha] at e; cases e
    have d':Data.seq vs.toArray _=Data.dict es ep:=d
    cases d'
  have nsK:∀ {b:Addr} {m:Str->Option Value},s₁.heap.Ns b m->(hidT s₁.heap H).Ns b m:=fun {b m} ⟨o,es,ep,e,d,r⟩=>⟨o,es,ep,base_of e (noA e d),d,r⟩
  have hKb:K.In (hidT s₁.heap H):=fun b o e=>base_of (KX b o e) (by
   cases q:H b with
   | none=>rfl
   | some u=>
    have e':b=a:=hA b (by rw [q]; simp)
    subst e'
    rw [hK (by rw [q]; simp)] at e; cases e)
  have hM:Mod K mg (hidT s₁.heap H):=⟨hKb,nsK hns,⟨mb,nsK hb,hbb⟩,let ⟨mc,h1,h2⟩:=hlim; ⟨mc,nsK h1,h2⟩⟩
  have e0:Env0 P w K mg (hidT s₁.heap H) callerA [] s₁ H:=⟨rfl,hM,fun b o e=>of_hidT e,Nat.le_of_eq (hidT_size _ _),trivial,fun b hb=>absurd (show b ∈ ([]:List Addr) from hb) (by simp),hok,.of_eq hg⟩
  refine codeAny_mono ((F _ hKb (nsK hns)).run callerA [] s₁ H ⟨[.ref a],[]⟩ [.ref a] [.ref a] _ _ hr e0 (hbind s₁ (.ref a)) (.cons rfl .nil) (hsp H hO hS)) fun r s' h=>?_
  cases r with
  | error e=>exact (hCX H e s' h).elim
  | ok fl=>
   cases fl with
   | next=>exact False.elim h
   | brk=>exact False.elim h
   | cont=>exact False.elim h
   | ret u=>
    obtain ⟨v,H',os,bare,un,hok',r',q⟩:=h
    have q':v=.bl true:=q
    subst q'
    obtain rfl:u=Value.bool true:=r'
    refine ⟨rfl,OldK.of_keep fun b o e=>?_,os,bare⟩
    cases q:H b with
    | none=>exact un.keep b o e q (by intro z; exact absurd (show b ∈ ([]:List Addr) from z) (by simp)) (by simp)
    | some u=>
     rcases hO b with z | ⟨ob,xs,z⟩
     ·rw [q] at z; cases z
     ·have z2:=un.frzs b ob _ z
      obtain ⟨e1,_⟩:=hok b _ z
      obtain ⟨e2,_⟩:=hok' b _ z2
      rw [e] at e1; cases e1
      exact e2
 cases hk:K.lookup a with
 | some o=>
  have e:=KX a o hk
  rw [ha] at e
  cases e
  refine core (fun _=>none) (fun _=>.inl rfl) (.inr ⟨_,vs.toArray,_,hk,rfl,rfl,rfl,by rw [List.size_toArray,lenV]; exact hl,by simpa using rv⟩) (fun b u z=>by have z':(none:Option HO)=some u:=z; cases z') (fun b z=>absurd rfl z) fun z=>absurd rfl z
 | none=>
  refine core (fun b=>if b=a then some (.frz { cls:=.type "list",data:=.seq vs.toArray } (.lst (ns.map V.int))) else none) (fun b=>?_) (.inl (.inr ⟨{ cls:=.type "list",data:=.seq vs.toArray },if_pos rfl⟩)) (fun b u z=>?_) (fun b z=>?_) fun _=>hk
  ·by_cases hb:b=a
   ·exact .inr ⟨_,_,if_pos hb⟩
   ·exact .inl (if_neg hb)
  ·by_cases hb:b=a
   ·have z':=(if_pos hb).symm.trans z
    cases z'
    subst hb
    exact ⟨ha,by rw [List.length_map]; exact hl,vs,_,rv,ha⟩
   ·have z':=(if_neg hb).symm.trans z
    cases z'
  ·by_cases hb:b=a
   ·exact hb
   ·exact absurd (if_neg hb) z
theorem walk_of {l:PySem.W.OpenLaw} {n k:Nat} {q:Program} {loose:List Str} {XP:(Str->Option Value)->Heap->Prop} {YP:World->Heap->Prop} {d:DefRec} {K:Params->PySem.W.Frag} {CX:World->CXT} {sp:World->Sp} {x:Str}
  (hn:l.most=some n) (hn2:n<=sizeLine) (hdf:d.params.defaults=[]) (hr:Room k callerA)
  (hY:∀ (w:World) (h:Heap),YP w h->(K w.params).In h)
  (F:∀ (w:World) (mg:Str->Option Value) (fa:Addr) (h:Heap),(K w.params).In h->h.Ns mainGlobals mg->mg d.name=some (.ref fa) ->
   ∃ fd:FuncData,(∀ (s:Shared) (u:Value),BindsTo s fd ⟨[u],[]⟩ [(x,u)]) /\
    ∀ base:Heap,(K w.params).In base->base.Ns mainGlobals mg->FnOk l.prog w (K w.params) mg base (CX w) k fa fd [x] (sp w))
  (hsp:∀ (w:World) (H:Hp) (a:Addr) (ns:List Int),ns.length<=n->Only H->SqL (K w.params) H a (ns.map V.int)->sp w [.ref a] H (fun v _=>v=.bl true) fun _ _ _=>False)
  (hCX:∀ (w:World) (H:Hp) (s:Shared) (e:Value) (s':Shared),CX w [] H s (fun _ _ _=>False) e s'->False) :
  PySem.W.WalkO q loose XP YP l.row.toRowW d [] (fun f vs=>PySem.call f vs):=by
 refine Att.attach_call hn hdf fun w s₀ s₁ mg mb fa o pm cd doc a vs ns G Y ho hd hcd hmg hobj hints hlen hg=>?_
 have KX:=hY w _ Y
 obtain ⟨fd,hb,hF⟩:=F w mg fa _ KX G.T.g hmg
 exact law_call KX G.T.g G.T.b G.T.builtins G.T.nolimit hg hobj hints (Nat.le_trans hlen hn2) hr hF hb (fun H hO hS=>hsp w H a ns hlen hO hS) fun H e s'=>hCX w H s₁ e s'
def defArgs (s:Stmt):Arguments:=match s with
 | .FunctionDef _ a _ _ _ _ _ _ _ _=>a
 | _=>{ posonlyargs:=[],args:=[],vararg:=none,kwonlyargs:=[],kw_defaults:=[],kwarg:=none,defaults:=[] }
def defBody (s:Stmt):List Stmt:=match s with
 | .FunctionDef _ _ b _ _ _ _ _ _ _=>b
 | _=>[]
def defScope (s:Stmt):Scope:=match s with
 | .FunctionDef _ _ _ _ _ _ sc _ _ _=>sc
 | _=>{ kind:=.function,names:=[],isGenerator:=false,isCoroutine:=false }
abbrev CX0:CXT:=fun _ _ _ _ _ _=>False
abbrev E0:XK:=fun _ _ _=>False
theorem pass0 {X:Cx}:Passes CX0 X E0:=fun _ _ _ _ _ _ _ h=>h.elim
structure Fun (K:PySem.W.Frag) (x qual:Str) (st:Stmt) (f:Addr) (fd:FuncData):Prop where
 ex:∃ (oc:Value) (od:Option Addr) (kV doc pm:Value) (an:Option Addr) (cdv ct:Value) (osl:Array (Option Value)),
  fd=PySem.W.fnOf x qual (defArgs st) (defBody st) (defScope st) .none kV doc pm an cdv ct/\K.lookup f=some ⟨oc,od,.func fd,osl⟩/\PySem.W.codeIn K cdv qual=true
 kp:PySem.W.keepIn K (.ref f)=true
section
variable {P:Program} {w:World} {K:PySem.W.Frag} {mg:Str->Option Value} {base:Heap}
theorem Fun.ok {x qual:Str} {st:Stmt} {f:Addr} {fd:FuncData} {N ps:List Str} {k:Nat} {sp:Sp} (F:Fun K x qual st f fd) (S:FnScope N ps (defScope st)) (len:∀ vs H Q E,sp vs H Q E->vs.length=ps.length)
  (hbody:∀ (cdv:Value) (A:Around) (outer:List Env) (s:Shared) (H:Hp) (vs:List V) (Q:VK) (E:XK),Room k (A.deeper (envOfC qual (defScope st) s.heap.objs.size f cdv))->sp vs H Q E ->
   ∃ t,PSs (cxOf CX0 P w K mg base N qual (defScope st) f cdv A outer s H E).nox (defBody st) t/\t { nx:=fun _ H'=>Q .non H',rt:=Q } (start N vs) H):FnOk P w K mg base CX0 (k + 1) f fd ps sp:=by
 obtain ⟨oc,od,kV,doc,pm,an,cdv,ct,osl,rfl,lk,hcd⟩:=F.ex
 refine fn_of lk hcd S len fun A outer s H vs Q E hr hsp=>?_
 obtain ⟨t,h,q⟩:=hbody cdv A outer s H vs Q E hr hsp
 exact ⟨t,h.nox,q⟩
theorem Fun.binds {x qual:Str} {st:Stmt} {f:Addr} {fd:FuncData} {ps:List Str} (F:Fun K x qual st f fd)
  (h:∀ (kV doc pm:Value) (an:Option Addr) (cdv ct:Value) (us:List Value),us.length=ps.length->bindArgs (PySem.W.fnOf x qual (defArgs st) (defBody st) (defScope st) .none kV doc pm an cdv ct) ⟨us,[]⟩=pure (ps.zip us)):Binds K fd ps []:=by
 obtain ⟨oc,od,kV,doc,pm,an,cdv,ct,osl,rfl,lk,hcd⟩:=F.ex
 exact .all (h kV doc pm an cdv ct)
theorem fun_mk {x qual:Str} {st:Stmt} {f:Addr} {oc:Value} {od an:Option Addr} {osl:Array (Option Value)} {kV doc pm cdv ct:Value} (l:K.lookup f=some ⟨oc,od,.func (PySem.W.fnOf x qual (defArgs st) (defBody st) (defScope st) .none kV doc pm an cdv ct),osl⟩)
  (c:PySem.W.codeIn K cdv qual=true) (k:PySem.W.keepIn K (.ref f)=true):Fun K x qual st f (PySem.W.fnOf x qual (defArgs st) (defBody st) (defScope st) .none kV doc pm an cdv ct):=⟨⟨oc,od,kV,doc,pm,an,cdv,ct,osl,rfl,l,c⟩,k⟩
end
theorem hu_of {A:Around} {k:Nat} (hr:Room k A):A.units + 1 < cLine:=Nat.lt_of_le_of_lt (Nat.add_le_add_left (by decide:1<=64) _) hr.units
section
variable {X:Cx}
theorem pv (i:Nat) {x:Str} {pos:Pos} (hN:X.N[i]? = some x:=by rfl) (hv:Vis X.env.scope x:=by first | exact Or.inl rfl | exact Or.inr (Or.inl rfl) | exact Or.inr (Or.inr rfl)) (hd:(x == ("__debug__":Str))=false:=by decide)
  (hcd:(x == ("__classdict__":Str))=false:=by decide):PE X (.Name x pos) (tVar i):=pe_var hN hv hd hcd
end
theorem iteF {A B:Prop} (h:B):if false=true then A else B:=by
 rw [if_neg Bool.false_ne_true]
 exact h
theorem iteT {A B:Prop} (h:A):if true=true then A else B:=by
 rw [if_pos rfl]
 exact h
theorem ite2 {c A B:Prop} [Decidable c] (h1:c->A) (h2:¬ c->B):if c then A else B:=by
 by_cases h:c
 ·rw [if_pos h]
  exact h1 h
 ·rw [if_neg h]
  exact h2 h
def Same (H H':Hp):Prop:=∀ b o,H b=some o->H' b=some o
theorem Same.refl (H:Hp):Same H H:=fun _ _ h=>h
theorem Same.trans {H H1 H2:Hp} (a:Same H H1) (b:Same H1 H2):Same H H2:=fun c o h=>b c o (a c o h)
theorem Same.free {H H':Hp} (e:Same H H') {l:Addr} (h:H' l=Option.none):H l=Option.none:=by
 cases q:H l with
 | none=>rfl
 | some o=>
  rw [e l o q] at h
  cases h
section
variable {κ:Type} [DecidableEq κ]
theorem valV_not {kvs:List (κ × V)} {k:κ} (h:valV kvs k=none):¬ k ∈ kvs.map (·.1):=by
 intro m
 obtain ⟨p,hp,e⟩:=List.mem_map.mp m
 have q:(kvs.any fun kv=>decide (kv.1=k))=true:=List.any_eq_true.mpr ⟨p,hp,decide_eq_true e⟩
 rw [valV_any,h] at q
 exact absurd q (by simp)
end
abbrev compCx (X:Cx) (scope:Scope) (cl:List (Str × Addr)) (N:List Str) (s2:Shared) (H:Hp) (C:Addr) (fp:List Addr):Cx where
 prog:=X.prog
 w:=X.w
 K:=X.K
 mg:=X.mg
 base:=X.base
 A:=X.A
 N:=N
 s₀:=s2
 H₀:=H
 env:=compEnvC scope cl C X.env
 outer:=X.stack
 stack:=X.stack
 ex:=fp
 fn:=fun _=>false
 calm:=X.calm
 pn:=[]
 xe:=fun _ _=>False
structure CompOk (X:Cx) (scope:Scope) (cl:List (Str × Addr)):Prop where
 clos:closureFor scope X.env=pure cl
 cell:∀ y ∈ scope.names,y.2 ≠ .cell
 kind:scope.kind=.function
 names:∀ y ∈ scope.names,y.2=.local->scope.names.lookup y.1=some .local
 sub:∀ x c,cl.lookup x=some c->X.env.cells.lookup x=some c
 has:∀ x,((relabel scope X.env).names.lookup x=some .cell\/(relabel scope X.env).names.lookup x=some .free)->∃ c,cl.lookup x=some c
def Carry (X:Cx) (cl:List (Str × Addr)) (scope:Scope) (N:List Str) (σ σ':St):Prop:=
 σ'.length=N.length/\∀ (i:Nat) (x:Str) (v:V),N[i]? = some x->σ'[i]? = some (some v) ->
  (∃ j:Nat,X.N[j]? = some x/\σ[j]? = some (some v))/\(X.env.kindOf x=some .cell\/X.env.kindOf x=some .free) /\
   ((relabel scope X.env).names.lookup x=some .cell\/(relabel scope X.env).names.lookup x=some .free)
theorem Carry.none (X:Cx) (cl:List (Str × Addr)) (scope:Scope) (N:List Str) (σ:St):Carry X cl scope N σ (N.map fun _=>Option.none):=by
 refine ⟨by simp,fun i x v h1 h2=>?_⟩
 rw [List.getElem?_map,h1] at h2
 cases h2
section
variable {X:Cx} {pins:List (Addr × Obj)} {σ σ':St} {H H':Hp} {s2 s':Shared} {scope:Scope} {cl:List (Str × Addr)} {N:List Str} {fp:List Addr} {C D:Addr} {h₁ h':Heap} {t':Nat}
theorem comp_start (I:Inv X pins σ H s2) (hf:∀ b ∈ fp,FpOk X pins H b) (hfo:∀ b ∈ fp,∃ o,s2.heap.get? b=some o) (co:CompOk X scope cl) (hσ:Carry X cl scope N σ σ')
  (k:∀ b o,s2.heap.get? b=some o->h₁.get? b=some o) (hD:s2.heap.objs.size<=D) (hC:s2.heap.objs.size<=C) (hDC:C ≠ D)
  (new:h₁.get? D=some { cls:=.type "list",data:=.seq ([]:List Value).toArray 0 }\/∃ n,h₁.get? D=some { cls:=.type "list",data:=.seq ([]:List Value).toArray n }) {m:Str->Option Value} (hn:h₁.Ns C m) :
  Inv (compCx X scope cl N s2 H C fp) [] σ' (upd H D (.lst [])) { s2 with heap:=h₁,toks:=t' }:=by
 have fD:H D=none:=I.hok.fresh hD
 have fC:H C=none:=I.hok.fresh hC
 have newO:ObjOk X.prog X.w (upd H D (.lst [])) h₁ D (.lst []):=by
  refine ⟨Nat.zero_le _,[],?_⟩
  rcases new with e | ⟨n,e⟩
  ·exact ⟨0,.nil,e⟩
  ·exact ⟨n,.nil,e⟩
 have lts:∀ b ∈ fp,b < s2.heap.objs.size:=fun b hb=>let ⟨_,e⟩:=hfo b hb; Heap.lt_size e
 have cells_lt:∀ x c,cl.lookup x=some c->c < s2.heap.objs.size:=fun x c e=>by
  obtain ⟨v,q⟩:=I.cell x c (co.sub x c e)
  exact q.lt
 have ok:Cx.Ok (compCx X scope cl N s2 H C fp):=by
  refine ⟨I.ok.mod,?_,I.ok.glob,I.ok.blt,hC,?_,?_,?_,I.ok.hd,I.ok.frames,.inl rfl,?_,I.bs,Nat.le_trans I.ok.bsz I.sz,?_,?_,I.stack,I.stkFree⟩
  ·exact co.kind
  ·exact fun x y c e1 e2=>I.ok.inj x y c (co.sub x c e1) (co.sub y c e2)
  ·exact fun x h=>co.has x h
  ·exact fun x c h _=>by cases h
  ·intro b hb
   refine ⟨fun e=>?_,fun x c e=>(hf b hb).2.2.2.2.1 x c (co.sub x c e)⟩
   have z:=lts b hb
   exact absurd (Nat.lt_of_lt_of_le z hC) (by rw [show b=C from e]; exact Nat.lt_irrefl _)
  ·intro b o e hb
   have hb':b ∈ fp:=hb
   rcases (hf b hb').2.2.2.1 with z | z
   ·exact I.ok.noex b o e z
   ·exact absurd (Nat.lt_of_lt_of_le (Heap.lt_size e) (Nat.le_trans I.ok.bsz z)) (Nat.lt_irrefl _)
  ·intro b hb hz
   have hb':b ∈ fp:=hb
   obtain ⟨_,f1,f2,_⟩:=hf b hb'
   rcases List.mem_cons.mp (I.stkSub b hz) with e | e
   ·exact f1 e
   ·exact f2 e
 refine ⟨ok,rfl,I.bare,Un.laid k hD fD,?_,?_,?_,?_,?_,I.hok.laid k hD newO,hσ.1⟩
 ·refine ⟨m,hn,fun i x v e1 e2 _=>?_⟩
  obtain ⟨⟨j,j1,j2⟩,kk,kr⟩:=hσ.2 i x v e1 e2
  obtain ⟨mo,_,hl⟩:=I.loc
  obtain ⟨u,r,l⟩:=hl j x v j1 j2 (by
   rcases kk with z | z
   ·exact .inr (.inl z)
   ·exact .inr (.inr z))
  refine ⟨u,r,.inr ⟨kr,?_⟩⟩
  obtain ⟨c,hc⟩:=co.has x kr
  rcases l with ⟨z,_⟩ | ⟨_,c',hc',hcell⟩
  ·rcases kk with q | q
   ·rw [z] at q; cases q
   ·rw [z] at q; cases q
  ·have e3:=co.sub x c hc
   rw [hc'] at e3
   have e4:c'=c:=Option.some.inj e3
   subst e4
   obtain ⟨o,ho,hd⟩:=hcell
   exact ⟨c',hc,o,k _ o ho,hd⟩
 ·intro x c e
  obtain ⟨v,o,ho,hd⟩:=I.cell x c (co.sub x c e)
  exact ⟨v,o,k _ o ho,hd⟩
 ·show upd H D (.lst []) C=none
  rw [upd_ne hDC]
  exact fC
 ·intro x c e
  rw [upd_ne (Nat.ne_of_lt (Nat.lt_of_lt_of_le (cells_lt x c e) hD))]
  exact I.freeC x c (co.sub x c e)
 ·intro p hp
  cases hp
theorem comp_end {pl:List (Addr × Obj)} (I:Inv X pins σ H s2) (hf:∀ b ∈ fp,FpOk X pins H b) (hC:s2.heap.objs.size<=C) (I2:Inv (compCx X scope cl N s2 H C fp) pl σ' H' s')
  (hs:Heap.SameBut C s'.heap h'):Inv X pins σ H' { s' with heap:=h' }:=by
 have nC:∀ b o,s2.heap.get? b=some o->b ≠ C:=fun b o e=>Nat.ne_of_lt (Nat.lt_of_lt_of_le (Heap.lt_size e) hC)
 have u:=I2.base
 refine I.call' (s':={ s' with heap:=h' }) (ch:=fp) I2.os ⟨?_,?_,u.free,?_,u.tups,u.frzs,u.tbls⟩ ?_ I2.bare fun b hb=>?_
 ·exact fun b o e n h1 h2=>(hs.2 b (nC b o e)).trans (u.keep b o e n h1 h2)
 ·intro b o e n h1 h2
  obtain ⟨sl,q⟩:=u.slot b o e n h1 h2
  exact ⟨sl,(hs.2 b (nC b o e)).trans q⟩
 ·intro b o e h2
  obtain ⟨o',q⟩:=u.there b o e h2
  exact ⟨o',(hs.2 b (nC b o e)).trans q⟩
 ·intro b ob e
  have hfree:H' C=none:=I2.free
  refine (I2.hok b ob e).stay (fun c w' hc q=>(hs.2 c ?_).trans q) (fun _ q=>q) fun _ _ q=>q
  rintro rfl
  rcases hc with rfl | hc
  ·rw [hfree] at e; cases e
  ·rw [hfree] at hc; cases hc
 ·obtain ⟨_,f1,_,f3,f4,f5⟩:=hf b hb
  exact ⟨f3,f1,f4,f5⟩
end
section
variable {prog:Program} {w:World} {A:Around} {R:Result->Shared->Prop} {s:Shared}
theorem codeAny_compLoop_any {elt target iter:Expr} {ifs:List Expr} {scope:Scope} {pos:Pos} {it acc:Value} {env:Env} (I:Nat->Shared->Prop)
  (turn:∀ n s,I n s->wpAny (model prog w) A (pyNext it) (fun r s₁=>match r with
   | none=>R (.ok .next) s₁
   | some v=>wpAny (model prog w) A (letOwnedTupleGo target it v) (fun _ s₁'=>wpAny (model prog w) A (assign target env v) (fun _ s₂=>
     wpAny (model prog w) A (forIn ifs true fun c r=>if r=true then do let ok <- isTrue c env (eval c env); pure (ForInStep.yield ok) else pure (ForInStep.yield r)) (fun ok s₃=>
      if ok=true then wpAny (model prog w) A (eval elt env) (fun x s₄=>
       wpAny (model prog w) A (call (.builtin "list.append") [acc,x]) (fun _ s₅=>∃ m,m < n/\I m s₅) (notedBy (model prog w) A env fun e s'=>R (.error e) s') s₄) (notedBy (model prog w) A env fun e s'=>R (.error e) s') s₃
      else ∃ m,m < n/\I m s₃) (notedBy (model prog w) A env fun e s'=>R (.error e) s') s₂) (notedBy (model prog w) A env fun e s'=>R (.error e) s') s₁') (notedBy (model prog w) A env fun e s'=>R (.error e) s') s₁) (notedBy (model prog w) A env fun e s'=>R (.error e) s') s)
  (n:Nat) (h:I n s) :
  codeAny (model prog w) A (.compLoop (.ListComp elt [⟨target,iter,ifs,0⟩] scope pos) 0 it acc env) R s:=by
 refine codeAny_loop rfl I (fun n s hI=>?_) n h
 show wpAny _ A ((compTurn (.ListComp elt [⟨target,iter,ifs,0⟩] scope pos) 0 it acc env).onRaise (fun x=>do noteFrame x env; theTreesLotGoes x)) _ _ s
 refine wpAny_noted ?_
 rw [compTurn_list]
 refine wpAny_bind (wpAny_standAt (wpAny_bind (wpAny_mono (turn n s hI) (fun r s₁ h₁=>?_) fun _ _ h'=>h')))
 cases r with
 | none=>exact wpAny_pure h₁
 | some v=>
  refine wpAny_bind (wpAny_mono h₁ (fun _ s₁' h₁'=>?_) fun _ _ h'=>h')
  refine wpAny_bind (wpAny_mono h₁' (fun _ s₂ h₂=>wpAny_bind (wpAny_mono h₂ (fun ok s₃ h₃=>?_) fun _ _ h'=>h')) fun _ _ h'=>h')
  cases ok with
  | false=>exact wpAny_pure ⟨rfl,h₃⟩
  | true=>
   exact wpAny_bind (wpAny_bind (wpAny_mono h₃ (fun x s₄ h₄=>wpAny_bind (wpAny_mono h₄ (fun _ s₅ h₅=>wpAny_pure (wpAny_pure ⟨rfl,h₅⟩)) fun _ _ h'=>h')) fun _ _ h'=>h'))
end
def PTs (X:Cx) (ifs:List Expr) (t:TT):Prop:=
 ∀ (pins:List (Addr × Obj)) (s:Shared) (σ:St) (H:Hp) (Q:Bool->Hp->Prop),Inv X pins σ H s->t σ H Q ->
  wpAny (model X.prog X.w) X.A (forIn ifs true fun c r=>if r=true then do let ok <- isTrue c X.env (eval c X.env); pure (ForInStep.yield ok) else pure (ForInStep.yield r)) (TP X pins σ Q) X.xe s
def tYes:TT:=fun _ H Q=>Q true H
theorem pts_nil {X:Cx}:PTs X [] tYes:=fun _ _ _ H _ I h=>wpAny_tests_nil ⟨H,I,h⟩
def tComp (wi:TI) (g:TG) (tt:TT) (te:TE) (σ0:St->St):TE:=fun σ H Q=>wi σ H fun J H1=>∀ D,H1 D=none->∃ W:Nat->Nat->St->Hp->Prop,(∃ m,W 0 m (σ0 σ) (upd H1 D (.lst []))) /\
 ∀ i m σ' H',W i m σ' H'->(J.stop i H'/\Q (.ref D) H')\/(J.go i H'/\∀ x H2,J.yld i H' x H2->g x σ' H2 fun σ2 H3=>tt σ2 H3 fun b H4=>
  if b=true then te σ2 H4 (fun v H5=>∃ acc,H5 D=some (.lst acc)/\acc.length < sizeLine/\∃ m',m' < m/\W (i + 1) m' σ2 (upd H5 D (.lst (acc ++ [v])))) else ∃ m',m' < m/\W (i + 1) m' σ2 H4)
theorem pe_comp {X:Cx} {tg iter elt:Expr} {ifs:List Expr} {scope:Scope} {cl:List (Str × Addr)} {N:List Str} {pos:Pos} {wi:TI} {g:TG} {tt:TT} {te:TE} {σ0:St->St} (hc:X.calm=true) (co:CompOk X scope cl)
  (hσ:∀ σ,σ.length=X.N.length->Carry X cl scope N σ (σ0 σ)) (hi:PI X tg iter wi)
  (hb:∀ s2 H C fp,PG (compCx X scope cl N s2 H C fp) tg g/\PTs (compCx X scope cl N s2 H C fp) ifs tt/\PE (compCx X scope cl N s2 H C fp) elt te)
  (hs:∀ x,foldedSetIterable iter X.env x=pure x:=by intro _; rfl):PE X (.ListComp elt [⟨tg,iter,ifs,0⟩] scope pos) (tComp wi g tt te σ0):=by
 intro pins s σ H Q I h
 rw [eval_ListComp]
 refine wpAny_comprehension_free (use:=none) rfl hs co.clos co.kind co.names (wpAny_mono (hi pins s σ H _ I h) (fun xv s1 h1=>wpAny_mono h1 (fun itv s2 h2=>?_) fun _ _ e=>e) fun _ _ e=>e)
 obtain ⟨it,fp,tn,J,H2,rfl,I2,T,st2,f2,hW⟩:=h2
 refine wpAny_newObj_type (wpAny_newFunctionEnv co.cell (by intro y hy; cases hy) (fun h₁ hns₁ hsb₁=>?_) co.kind)
 dsimp only at hns₁ hsb₁ ⊢
 generalize hH2:s2.heap.push { cls:=.type "list",dict:=none,data:=.seq ([]:List Value).toArray } = HH at hns₁ hsb₁ ⊢
 have hCsz:HH.objs.size=s2.heap.objs.size + 1:=by rw [<-hH2,Heap.size_push]
 have old:∀ b o,s2.heap.get? b=some o->h₁.get? b=some o:=fun b o e=>
  hsb₁.extBut b o (Nat.ne_of_lt (by rw [hCsz]; exact Nat.lt_succ_of_lt (Heap.lt_size e))) (Heap.get?_push_of_some _ (hH2 ▸ Heap.get?_push_of_some _ e))
 have newD:∃ n,h₁.get? s2.heap.objs.size=some { cls:=.type "list",data:=.seq ([]:List Value).toArray n }:=
  ⟨_,hsb₁.extBut _ _ (Nat.ne_of_lt (by rw [hCsz]; exact Nat.lt_succ_self _)) (Heap.get?_push_of_some _ (hH2 ▸ Heap.get?_push_size _ rfl))⟩
 obtain ⟨W,⟨m0,w0⟩,turn⟩:=hW s2.heap.objs.size I2.fresh
 have hfo:∀ b ∈ fp,∃ o,s2.heap.get? b=some o:=fun b hb=>let ⟨o,e,_⟩:=T.obj _ _ st2 b hb; ⟨o,e⟩
 have I3:Inv (compCx X scope cl N s2 H2 HH.objs.size fp) [] (σ0 σ) (upd H2 s2.heap.objs.size (.lst [])) { s2 with heap:=h₁,toks:=s2.toks + ([]:List (Str × Value)).length }:=
  comp_start I2 f2 hfo co (hσ σ I.len) old (Nat.le_refl _) (by rw [hCsz]; exact Nat.le_succ _) (Nat.ne_of_gt (by rw [hCsz]; exact Nat.lt_succ_self _)) (.inr newD) hns₁
 have fC:s2.heap.objs.size<=HH.objs.size:=by rw [hCsz]; exact Nat.le_succ _
 obtain ⟨hg,ht,he⟩:=hb s2 H2 HH.objs.size fp
 have loop:∀ s₃:Shared,s₃ = { s2 with heap:=h₁,toks:=s2.toks + ([]:List (Str × Value)).length } ->
   codeAny (model X.prog X.w) X.A (.compLoop (.ListComp elt [⟨tg,iter,ifs,0⟩] scope pos) 0 (.ref it) (.ref s2.heap.objs.size) (compEnvC scope cl HH.objs.size X.env))
    (compPost (model X.prog X.w) X.A X.xe none (EP X pins σ Q) (.ref s2.heap.objs.size) HH.objs.size) s₃:=by
  rintro s₃ rfl
  have stat:∀ {H':Hp} ,(∀ b ∈ fp,H' b=none)->∀ b ∈ fp,FpOk (compCx X scope cl N s2 H2 HH.objs.size fp) [] H' b:=fun hn b hb=>by
   refine ⟨hn b hb,?_,?_,.inl hb,?_,fun p hp=>by cases hp⟩
   ·obtain ⟨o,e⟩:=hfo b hb
    exact Nat.ne_of_lt (show b < HH.objs.size by rw [hCsz]; exact Nat.lt_succ_of_lt (Heap.lt_size e))
   ·intro hz
    obtain ⟨_,q1,q2,_⟩:=f2 b hb
    rcases List.mem_cons.mp (I2.stkSub b hz) with e | e
    ·exact q1 e
    ·exact q2 e
   ·exact fun x c e=>(f2 b hb).2.2.2.2.1 x c (co.sub x c e)
  refine codeAny_compLoop_any (fun n s'=>∃ i σ' H',Inv (compCx X scope cl N s2 H2 HH.objs.size fp) [] σ' H' s'/\tn i s'.heap/\(∀ b ∈ fp,H' b=none)/\W i n σ' H') ?_ m0
   ⟨0,σ0 σ,_,I3,T.keep _ _ _ st2 fun b hb o e=>old b o e,fun b hb=>?_,w0⟩
  ·rintro n s4 ⟨i,σ4,H4,I4,st4,fr4,w4⟩
   rcases turn i n σ4 H4 w4 with ⟨stop,qn⟩ | ⟨go,step⟩
   ·refine wpAny_mono (T.done (compCx X scope cl N s2 H2 HH.objs.size fp) rfl rfl rfl hc i [] s4 σ4 H4 (fun _ _=>False) I4 (stat fr4) st4 stop) (fun r s5 ⟨hr,I5⟩=>?_) fun _ _ z=>z.elim
    subst hr
    obtain ⟨m5,hn5,_⟩:=id I5.loc
    exact ⟨m5,hn5,fun h' hs'=>⟨.ref _,H4,comp_end I2 f2 fC I5 hs',rfl,qn⟩⟩
   ·refine wpAny_mono (T.item (compCx X scope cl N s2 H2 HH.objs.size fp) rfl rfl rfl hc i [] s4 σ4 H4 (fun _ _=>False) I4 (stat fr4) st4 go) (fun r s5 ⟨u,hr,h5⟩=>?_) fun _ _ z=>z.elim
    subst hr
    refine wpAny_mono h5 (fun _ s6 ⟨x,H6,I6,r6,y6,st6,fr6⟩=>?_) fun _ _ z=>z.elim
    have I6':=I6.pinned (stat fr6) (T.obj _ _ st6)
    refine wpAny_mono (hg _ s6 σ4 H6 x u _ I6' r6 (step x H6 y6)) (fun _ s7 ⟨σ7,H7,I7,q7⟩=>?_) fun _ _ z=>z.elim
    refine wpAny_mono (ht _ s7 σ7 H7 _ I7 q7) (fun ok s8 ⟨H8,I8,q8⟩=>?_) fun _ _ z=>z.elim
    have again:∀ {s9:Shared} {σ9:St} {H9:Hp} ,Inv (compCx X scope cl N s2 H2 HH.objs.size fp) ([] ++ pinsAt fp s6.heap) σ9 H9 s9->(∃ m',m' < n/\W (i + 1) m' σ9 H9)->∃ m,m < n/\∃ i σ' H',Inv (compCx X scope cl N s2 H2 HH.objs.size fp) [] σ' H' s9/\tn i s9.heap/\(∀ b ∈ fp,H' b=none)/\W i m σ' H':=fun {s9 σ9 H9} I9 n9=>by
     obtain ⟨m',hm,w9⟩:=n9
     refine ⟨m',hm,i + 1,σ9,H9,I9.unpinned,T.keep _ _ _ st6 fun b hb o e=>(I9.pin (b,o) (List.mem_append_right _ (List.mem_append_right _ (mem_pinsAt hb e)))).1,fun b hb=>?_,w9⟩
     obtain ⟨o,e,d⟩:=T.obj _ _ st6 b hb
     exact (I9.pin (b,o) (List.mem_append_right _ (List.mem_append_right _ (mem_pinsAt hb e)))).2.1
    cases ok with
    | false=>
     rw [if_neg Bool.false_ne_true] at q8 ⊢
     exact again I8 q8
    | true=>
     rw [if_pos rfl] at q8 ⊢
     refine wpAny_mono (he _ s8 σ7 H8 _ I8 q8) (fun y s9 ⟨v,H9,I9,r9,acc,hacc,hsz,q9⟩=>?_) fun _ _ z=>z.elim
     refine wpAny_mono (mt_append (X:=compCx X scope cl N s2 H2 HH.objs.size fp) _ s9 σ7 H9 (.ref s2.heap.objs.size) [v] (.ref s2.heap.objs.size) [y] (fun _ H10=>∃ m',m' < n/\W (i + 1) m' σ7 H10) I9 rfl (.cons r9 .nil) ⟨_,acc,v,rfl,rfl,hacc,hsz,q9⟩) (fun _ s10 ⟨_,H10,I10,_,q10⟩=>?_) fun _ _ z=>z.elim
     exact again I10 q10
  ·have z:=(f2 b hb).1
   obtain ⟨o,e⟩:=hfo b hb
   rw [upd_ne (Nat.ne_of_lt (Heap.lt_size e))]
   exact z
 exact codeAny_compStart_list (loop _ rfl) (T.self _ 0 _ _ _ (T.keep _ _ _ st2 fun b hb o e=>old b o e) (loop _ rfl))
def Its (x:Str):It:=⟨fun i _=>i < x.cps.size,fun i H v H'=>H'=H/\∃ c,x.cps[i]? = some c/\v=.str ⟨#[c]⟩,fun i _=>x.cps.size<=i⟩
theorem turn_strA {P:Program} {w:World} {K:PySem.W.Frag} {tg:Expr} (it:Addr) (x:Str) (t:Tok):Turn P w K tg (Its x) [it] it (fun i h=>h.IsStrIter it "str_ascii_iterator" x t i) where
 mem:=by simp
 obj:=fun i h st b hb=>by
  have e:b=it:=by simpa using hb
  subst e
  obtain ⟨o,e,c,d⟩:=st
  exact ⟨o,e,fun v z=>by rw [d] at z; cases z⟩
 keep:=fun i h h' st k=>let ⟨o,e,r⟩:=st; ⟨o,k it (by simp) o e,r⟩
 item:=by
  intro X hP hw hK hc i pins s σ H E I hf st hg
  subst hP hw hK
  obtain ⟨f0,f1,f2,f3,f4,f5⟩:=hf it (by simp)
  have hg':i < x.cps.size:=hg
  refine wpAny_pyNext_ascii_item st (c:=x.cps[i]) (by simp [hg']) fun h' st' sb=>?_
  have I1:Inv X pins σ H { s with heap:=h',toks:=s.toks + 1 }:=I.turned (fun b o hb e=>(sb.2 b hb).trans e) f0 f1 f3 f4 f5
  obtain ⟨o,e,c,d⟩:=id st'
  exact ⟨_,rfl,go_of (s:={ s with heap:=h',toks:=s.toks + 1 }) e c d (by decide) ⟨.str ⟨#[x.cps[i]]⟩,H,I1,⟨_,rfl⟩,⟨rfl,_,by simp [hg'],rfl⟩,st',fun b hb=>(hf b hb).1⟩⟩
 done:=by
  intro X hP hw hK hc i pins s σ H E I hf st hg
  subst hP hw hK
  obtain ⟨f0,f1,f2,f3,f4,f5⟩:=hf it (by simp)
  have hg':x.cps.size<=i:=hg
  exact wpAny_pyNext_ascii_end (I.ok.hd hc) st (by simp [hg']) fun h' eb=>⟨rfl,I.turned (t':=s.toks) (fun b o hb e=>eb b o hb e) f0 f1 f3 f4 f5⟩
 self:=fun _ _ _ _ _ st h=>wpAny_pyIter_striter_ascii st h
theorem turn_strW {P:Program} {w:World} {K:PySem.W.Frag} {tg:Expr} (it:Addr) (x:Str) (t:Tok):Turn P w K tg (Its x) [it] it (fun i h=>h.IsStrIter it "str_iterator" x t i) where
 mem:=by simp
 obj:=fun i h st b hb=>by
  have e:b=it:=by simpa using hb
  subst e
  obtain ⟨o,e,c,d⟩:=st
  exact ⟨o,e,fun v z=>by rw [d] at z; cases z⟩
 keep:=fun i h h' st k=>let ⟨o,e,r⟩:=st; ⟨o,k it (by simp) o e,r⟩
 item:=by
  intro X hP hw hK hc i pins s σ H E I hf st hg
  subst hP hw hK
  obtain ⟨f0,f1,f2,f3,f4,f5⟩:=hf it (by simp)
  have hg':i < x.cps.size:=hg
  refine wpAny_pyNext_wide_item st (c:=x.cps[i]) (by simp [hg']) fun h' st' sb=>?_
  have I1:Inv X pins σ H { s with heap:=h',toks:=s.toks + 1 }:=I.turned (fun b o hb e=>(sb.2 b hb).trans e) f0 f1 f3 f4 f5
  obtain ⟨o,e,c,d⟩:=id st'
  exact ⟨_,rfl,go_of (s:={ s with heap:=h',toks:=s.toks + 1 }) e c d (by decide) ⟨.str ⟨#[x.cps[i]]⟩,H,I1,⟨_,rfl⟩,⟨rfl,_,by simp [hg'],rfl⟩,st',fun b hb=>(hf b hb).1⟩⟩
 done:=by
  intro X hP hw hK hc i pins s σ H E I hf st hg
  subst hP hw hK
  obtain ⟨f0,f1,f2,f3,f4,f5⟩:=hf it (by simp)
  have hg':x.cps.size<=i:=hg
  exact wpAny_pyNext_wide_end (I.ok.hd hc) st (by simp [hg']) fun h' eb=>⟨rfl,I.turned (t':=s.toks) (fun b o hb e=>eb b o hb e) f0 f1 f3 f4 f5⟩
 self:=fun _ _ _ _ _ st h=>wpAny_pyIter_striter_wide st h
def iStr (tl:TE):TI:=fun σ H R=>tl σ H fun x H1=>∃ z,x=.str z/\R (Its z) H1
theorem pi_str {X:Cx} {tg l:Expr} {tl:TE} (hl:PE X l tl):PI X tg l (iStr tl):=by
 intro pins s σ H R I h
 refine thn (hl pins s σ H _ I h) fun v s1 ⟨x,H1,I1,r1,q1⟩=>?_
 obtain ⟨z,rfl,q⟩:=q1
 obtain ⟨t,rfl⟩:=r1
 have fin:∀ b ∈ [s1.heap.objs.size],FpOk X pins H1 b:=fun b hb=>by
  have e:b=s1.heap.objs.size:=by simpa using hb
  subst e
  exact I1.fpOk (Nat.le_refl _) (I1.hok.fresh (Nat.le_refl _))
 cases ha:z.cps.all (· < 128)
 ·exact wpAny_pyIter_wide ha ⟨s1.heap.objs.size,[s1.heap.objs.size],_,_,H1,rfl,I1.kept (t':=s1.toks) fun b o e=>Heap.get?_push_of_some _ e,turn_strW _ z t,⟨_,Heap.get?_push_size _ rfl,rfl,rfl⟩,fin,q⟩
 ·exact wpAny_pyIter_ascii ha ⟨s1.heap.objs.size,[s1.heap.objs.size],_,_,H1,rfl,I1.kept (t':=s1.toks) fun b o e=>Heap.get?_push_of_some _ e,turn_strA _ z t,⟨_,Heap.get?_push_size _ rfl,rfl,rfl⟩,fin,q⟩
theorem call_all_bl {X:Cx} (hc:X.calm=true):CallR X (.builtin "all") (fun xs H Q=>∃ (p:Addr) (bs:List Bool),xs=[.ref p]/\SqL X.K H p (bs.map V.bl)/\Q (.bl (bs.all id)) H):=by
 intro pins s σ H xs us Q I r h
 obtain ⟨p,bs,rfl,hq,q⟩:=h
 obtain ⟨u,rfl,ru⟩:=vals1 r
 cases ru
 obtain ⟨its,rv,pl,hz⟩:=I.list hq
 have hlen:its.length=bs.length:=by rw [<-rv.length,List.length_map]
 refine call_all_walk (wpAny_pyIter_list pl.isList ?_)
 have hne:p ≠ s.heap.objs.size:=by
  obtain ⟨o,n,e,_⟩:=pl
  exact Nat.ne_of_lt (Heap.lt_size e)
 refine ⟨s.heap.objs.size,_,_,_,_,_,fun i=>bs.getD i true,rfl,Walks.list (A:=X.A.in1) (I.ok.hd hc) s.heap.objs.size p hne its.toArray,⟨⟨_,Heap.get?_push_size _ rfl,rfl,rfl⟩,?_⟩,?_,?_⟩
 ·exact pl.isList.at fun o e=>Heap.get?_push_of_some _ e
 ·intro i v s1 Q1 E1 hv hQ
  have hv':its[i]? = some v:=by simpa using hv
  have hb:∃ b,bs[i]? = some b:=by
   cases e:bs[i]? with
   | some b=>exact ⟨b,rfl⟩
   | none=>
    have:=List.getElem?_eq_none_iff.mp e
    have:=(List.getElem?_eq_some_iff.mp hv').1
    (first|lia|omega)
  obtain ⟨b,hb⟩:=hb
  obtain ⟨u,hu,ru⟩:=rv.get (i:=i) (x:=V.bl b) (by rw [List.getElem?_map,hb]; rfl)
  rw [hv'] at hu
  cases hu
  cases ru
  have e:bs.getD i true=b:=by rw [List.getD_eq_getElem?_getD,hb]; rfl
  have hQ':Q1 (bs.getD i true) s1:=hQ
  rw [e] at hQ'
  exact wpAny_truthy_bool hQ'
 ·intro h' tk hk
  have e:(List.range its.toArray.size).all (fun i=>bs.getD i true)=bs.all id:=by
   rw [List.size_toArray,hlen]
   apply Bool.eq_iff_iff.mpr
   simp only [List.all_eq_true,List.mem_range,id]
   constructor
   ·intro h b hb
    obtain ⟨i,hi,e⟩:=List.getElem_of_mem hb
    have:=h i hi
    rw [List.getD_eq_getElem?_getD,List.getElem?_eq_getElem hi] at this
    simpa [e] using this
   ·intro h i hi
    rw [List.getD_eq_getElem?_getD,List.getElem?_eq_getElem hi]
    exact h _ (List.getElem_mem hi)
  rw [e]
  refine ⟨.bl _,H,?_,rfl,q⟩
  have I1:Inv X pins σ H { s with heap:=s.heap.push { cls:=.type "list_iterator",data:=.fields #[.ref p,.int 0 0] } }:=I.kept (t':=s.toks) fun b o e=>Heap.get?_push_of_some _ e
  have F:=I.fpOk (Nat.le_refl _) (I.hok.fresh (Nat.le_refl _))
  obtain ⟨f0,f1,f2,f3,f4,f5⟩:=F
  exact I1.turned (it:=s.heap.objs.size) (fun b o hb e=>hk b o (by simpa using hb) e) f0 f1 f3 f4 f5
theorem call_isinst {X:Cx}:CallR X (.builtin "isinstance") (fun xs H Q=>∃ x c t b,xs=[x,.ty c]/\TyOf X.K H x t/\PySem.W.kitOne X.K t (.type c)=some b/\Q (.bl b) H):=by
 intro pins s σ H xs us Q I r h
 obtain ⟨x,c,t,b,rfl,ty,e,q⟩:=h
 obtain ⟨u,v,rfl,rx,rc⟩:=vals2 r
 cases rc
 exact isinst_ok I rx ty e fun tk=>⟨.bl b,H,I.tok tk,rfl,q⟩
theorem op_le_str {X:Cx}:OpR X (compareOp .LtE) (fun x y H Q=>∃ i j,x=.str i/\y=.str j/\Q (.bl (!(decide (j.cps.toList < i.cps.toList)))) H):=by
 intro pins s σ H x y v u Q I rx ry h
 obtain ⟨i,j,rfl,rfl,q⟩:=h
 obtain ⟨t,rfl⟩:=rx
 obtain ⟨t',rfl⟩:=ry
 exact PySem.P.le_str ⟨.bl _,H,I,rfl,q⟩
def tSlS (te:TE) (tl th:TO):TE:=fun σ H Q=>te σ H fun x H1=>tl σ H1 fun l H2=>th σ H2 fun u H3=>∃ z,x=.str z/\z.length<=sizeLine/\Q (.str (Txt.slice z l u)) H3
theorem pe_slice_str {X:Cx} {e:Expr} {te:TE} {lo hi:Option Expr} {tl th:TO} {pos p2:Pos} (he:PE X e te) (hl:PO X lo tl) (hu:PO X hi th):PE X (.Subscript e (.Slice lo hi none p2) pos) (tSlS te tl th):=by
 intro pins s σ H Q I h
 refine Subscript_ (thn (he pins s σ H _ I h) fun v s1 ⟨x,H1,I1,r1,q1⟩=>?_)
 refine wpAny_Slice (thn (hl pins s1 σ H1 _ I1 q1) fun vl s2 ⟨l,H2,I2,pl,q2⟩=>thn (hu pins s2 σ H2 _ I2 q2) fun vu s3 ⟨u,H3,I3,pu,q3⟩=>?_)
 rw [evalPart_none]
 refine wpAny_pure ?_
 obtain ⟨z,rfl,hz,q⟩:=q3
 obtain ⟨t,rfl⟩:=r1
 show wpAny (model X.prog X.w) X.A (subscriptTail e (.Slice lo hi none p2) (.str z t) (.ref s3.heap.objs.size)) (EP X pins σ Q) X.xe { s3 with heap:=s3.heap.push { cls:=.type "slice",data:=.fields #[vl,vu,.none] } }
 have kk:KeptH (fun h=>∀ b o,s3.heap.get? b=some o->h.get? b=some o):=fun h ob hh b o e=>Heap.get?_push_of_some _ (hh b o e)
 have fin:ItemOn (model X.prog X.w) X.A X.xe (.str z t) (.ref s3.heap.objs.size) (EP X pins σ Q) { s3 with heap:=s3.heap.push { cls:=.type "slice",data:=.fields #[vl,vu,.none] } }:=by
  cases pl with
  | none=>
   cases pu with
   | none=>exact SBH.sliceItem_nn kk (fun _ _ e=>e) (fun h' t' k kp=>⟨.str _,H3,I3.kept kp,⟨_,rfl⟩,q⟩) hz
   | int j uj=>exact SBH.sliceItem_ns kk (fun _ _ e=>e) (fun h' t' k kp=>⟨.str _,H3,I3.kept kp,⟨_,rfl⟩,q⟩) hz
  | int i ui=>
   cases pu with
   | none=>exact SBH.sliceItem_sn kk (fun _ _ e=>e) (fun h' t' k kp=>⟨.str _,H3,I3.kept kp,⟨_,rfl⟩,q⟩) hz
   | int j uj=>exact SBH.sliceItem_ss kk (fun _ _ e=>e) (fun h' t' k kp=>⟨.str _,H3,I3.kept kp,⟨_,rfl⟩,q⟩) hz
 obtain ⟨T,id,hT,ht,hg⟩:=fin
 exact tail_any (ops:=[.ref s3.heap.objs.size,.str z t]) ht hT hg (by with_unfolding_all rfl)
theorem lookup_mem {α:Type}:∀ {l:List (Str × α)} {x:Str} {k:α},l.lookup x=some k->(x,k) ∈ l
 | [],_,_,h=>by cases h
 | (n,v) :: r,x,k,h=>by
  rw [List.lookup_cons] at h
  by_cases e:x=n
  ·subst e
   simp at h
   subst h
   exact List.mem_cons_self
  ·have:(x == n)=false:=beq_eq_false_iff_ne.mpr e
   rw [this] at h
   exact List.mem_cons_of_mem _ (lookup_mem h)
theorem CompOk.plain {X:Cx} {scope:Scope} (hfree:∀ x ∈ scope.names,x.2 ≠ .free) (hcell:∀ y ∈ scope.names,y.2 ≠ .cell) (hkind:scope.kind=.function)
  (hnames:∀ y ∈ scope.names,y.2=.local->scope.names.lookup y.1=some .local):CompOk X scope []:=by
 refine ⟨closureFor_none hfree,hcell,hkind,hnames,fun x c h=>(by cases h),fun x h=>?_⟩
 have key:∀ k,(relabel scope X.env).names.lookup x=some k->∃ y ∈ scope.names,y.2=k:=by
  intro k e
  have m:=lookup_mem e
  obtain ⟨⟨n,k'⟩,hm,e'⟩:=List.mem_map.mp m
  have hf:=hfree _ hm
  have:(k' == NameKind.free)=false:=by
   cases k' <;> first | rfl | exact absurd rfl hf
  dsimp only at e'
  rw [this] at e'
  simp at e'
  exact ⟨_,hm,e'.2⟩
 rcases h with h | h
 ·obtain ⟨y,hy,e⟩:=key _ h
  exact absurd e (hcell y hy)
 ·obtain ⟨y,hy,e⟩:=key _ h
  exact absurd e (hfree y hy)
def lowc (c:Nat):Bool:=decide (97<=c) && decide (c<=122)
theorem lt1 (a b:Nat):decide (([a]:List Nat) < [b])=decide (a < b):=by
 apply decide_eq_decide.mpr
 rw [List.cons_lt_cons_iff]
 constructor
 ·rintro (h | ⟨_,h⟩)
  ·exact h
  ·exact absurd h (by simp)
 ·exact fun h=>.inl h
theorem leA (c:Nat):(!(decide ((⟨#[c]⟩:Str).cps.toList < (Str.ofString "a").cps.toList)))=decide (97<=c):=by
 show (!(decide (([c]:List Nat) < [97])))=_
 rw [lt1,<-decide_not]
 exact decide_eq_decide.mpr (by (first|lia|omega))
theorem leZ (c:Nat):(!(decide ((Str.ofString "z").cps.toList < (⟨#[c]⟩:Str).cps.toList)))=decide (c<=122):=by
 show (!(decide (([122]:List Nat) < [c])))=_
 rw [lt1,<-decide_not]
 exact decide_eq_decide.mpr (by (first|lia|omega))
def nameB (t:Str):Bool:=decide (1<=t.length) && decide (t.length<=6) && t.cps.toList.all lowc
def NotStr (K:PySem.W.Frag) (H:Hp) (x:V):Prop:=∃ ty,TyOf K H x ty/\PySem.W.kitOne K ty (.type "str")=some false
def spName (K:PySem.W.Frag):Sp:=fun vs H Q _=>∃ x,vs=[x]/\((∃ t,x=.str t/\t.length<=1000/\∀ H',Same H H'->Q (.bl (nameB t)) H')\/(NotStr K H x/\Q (.bl false) H))
theorem same_upd {H:Hp} {p:Addr} {o:HO} (h:H p=none):Same H (upd H p o):=fun b u e=>by
 rw [upd_ne (ne_of_none e h)]
 exact e
theorem take_succ_map {α β:Type} (f:α->β) (l:List α) (i:Nat) (c:α) (h:l[i]? = some c):(l.take (i + 1)).map f=(l.take i).map f ++ [f c]:=by
 rw [List.take_succ,h,List.map_append]
 rfl
mutual
inductive Dat (H:Hp):V->PyData->Prop
 | non:Dat H .non .none
 | bl (b:Bool):Dat H (.bl b) (.bool b)
 | int (i:Int):Dat H (.int i) (.int i)
 | str (x:Str):Dat H (.str x) (.str x)
 | tup {a:Addr} {vs:List V} {ds:List PyData}:H a=some (.tup vs)->Dats H vs ds->Dat H (.ref a) (.tuple ds)
 | lst {a:Addr} {vs:List V} {ds:List PyData}:H a=some (.lst vs)->Dats H vs ds->Dat H (.ref a) (.list ds)
inductive Dats (H:Hp):List V->List PyData->Prop
 | nil:Dats H [] []
 | cons {v:V} {vs:List V} {d:PyData} {ds:List PyData}:Dat H v d->Dats H vs ds->Dats H (v :: vs) (d :: ds)
end
mutual
theorem Dat.mono {H H':Hp} (s:∀ a o,H a=some o->(∃ vs,o=.tup vs\/o=.lst vs)->H' a=some o):∀ {v:V} {d:PyData},Dat H v d->Dat H' v d
 | _,_,.non=>.non
 | _,_,.bl b=>.bl b
 | _,_,.int i=>.int i
 | _,_,.str x=>.str x
 | _,_,.tup e r=>.tup (s _ _ e ⟨_,.inl rfl⟩) (Dats.mono s r)
 | _,_,.lst e r=>.lst (s _ _ e ⟨_,.inr rfl⟩) (Dats.mono s r)
theorem Dats.mono {H H':Hp} (s:∀ a o,H a=some o->(∃ vs,o=.tup vs\/o=.lst vs)->H' a=some o):∀ {vs:List V} {ds:List PyData},Dats H vs ds->Dats H' vs ds
 | _,_,.nil=>.nil
 | _,_,.cons x r=>.cons (Dat.mono s x) (Dats.mono s r)
end
mutual
theorem Dat.reads {X:Cx} {pins:List (Addr × Obj)} {σ:St} {H:Hp} {s:Shared} (I:Inv X pins σ H s):∀ {v:V} {d:PyData} {u:Value},Dat H v d->RelV v u->∃ as,Reads s.heap u d as
 | _,_,_,.non,r=>by cases r; exact ⟨_,.none⟩
 | _,_,_,.bl b,r=>by cases r; exact ⟨_,.bool b⟩
 | _,_,_,.int i,r=>by obtain ⟨t,rfl⟩:=r; exact ⟨_,.int i t⟩
 | _,_,_,.str x,r=>by obtain ⟨t,rfl⟩:=r; exact ⟨_,.str x t⟩
 | _,_,_,.tup (a:=a) e m,r=>by
  cases r
  obtain ⟨_,its,rv,⟨o,ho,hc,n,hd⟩,_⟩:=(show ObjOk X.prog X.w H s.heap a (.tup _) from I.hok a _ e)
  obtain ⟨as,q⟩:=Dats.reads I m rv
  exact ⟨_,.tuple ho hc hd (by simpa using q)⟩
 | _,_,_,.lst (a:=a) e m,r=>by
  cases r
  obtain ⟨_,its,n,rv,ho⟩:=(show ObjOk X.prog X.w H s.heap a (.lst _) from I.hok a _ e)
  obtain ⟨as,q⟩:=Dats.reads I m rv
  exact ⟨_,.list ho rfl rfl (by simpa using q)⟩
theorem Dats.reads {X:Cx} {pins:List (Addr × Obj)} {σ:St} {H:Hp} {s:Shared} (I:Inv X pins σ H s):∀ {vs:List V} {ds:List PyData} {us:List Value},Dats H vs ds->Vals vs us->∃ as,ReadsAll s.heap us ds as
 | _,_,_,.nil,r=>by cases r; exact ⟨_,.nil⟩
 | _,_,_,.cons x m,r=>by
  cases r with
  | cons r1 r2=>
   obtain ⟨as,q1⟩:=Dat.reads I x r1
   obtain ⟨bs,q2⟩:=Dats.reads I m r2
   exact ⟨_,.cons q1 q2⟩
end
def Keep (p:Addr) (H H':Hp):Prop:=∀ b o,b ≠ p->H b=some o->H' b=some o
theorem Keep.trans {p:Addr} {H H1 H2:Hp} (a:Keep p H H1) (b:Keep p H1 H2):Keep p H H2:=fun c o n e=>b c o n (a c o n e)
theorem Keep.of_same {p:Addr} {H H':Hp} (s:Same H H'):Keep p H H':=fun b o _ e=>s b o e
theorem Keep.upd {p:Addr} {H:Hp} {o:HO}:Keep p H (L2.upd H p o):=fun b u n e=>by rw [upd_ne n]; exact e
def Scr (K:PySem.W.Frag) (H:Hp) (a:Addr) (xs:List V):Prop:=(∃ ob,H a=some (.frz ob (.lst xs)))\/∃ o its n,List.lookup a K=some o/\o.cls=Value.type "list"/\o.dict=none/\o.data=Data.seq its n/\its.size<=sizeLine/\Vals xs its.toList
theorem Scr.sq {K:PySem.W.Frag} {H:Hp} {a:Addr} {xs:List V} (h:Scr K H a xs):SqL K H a xs:=by
 rcases h with ⟨ob,h⟩ | h
 ·exact .inl (.inr ⟨ob,h⟩)
 ·exact .inr h
theorem Scr.same {K:PySem.W.Frag} {H H':Hp} {a:Addr} {xs:List V} (h:Scr K H a xs) (s:Same H H'):Scr K H' a xs:=by
 rcases h with ⟨ob,h⟩ | h
 ·exact .inl ⟨ob,s _ _ h⟩
 ·exact .inr h
theorem at_ns {ns:List Int} {i:Int} (h0:0<=i) (h1:i < ns.length):∃ c,atI (ns.map V.int) i=some (V.int c):=by
 obtain ⟨n,rfl⟩:∃ n:Nat,i=(n:Int):=⟨i.toNat,by (first|lia|omega)⟩
 have hn:n < ns.length:=by (first|lia|omega)
 exact ⟨ns[n],atI_nat (by rw [List.getElem?_map,List.getElem?_eq_getElem hn]; rfl)⟩
theorem at_mem {α:Type} {l:List α} {i:Int} {c:α} (h:atI l i=some c):c ∈ l:=by
 obtain ⟨j,_,h2,_⟩:=atI_get h
 exact List.mem_of_getElem? h2
abbrev letters:Str:="abcdefghijklmnopqrstuvwxyz"
theorem letters_low:∀ c ∈ letters.cps.toList,lowc c=true:=by decide +kernel
def Low (z:Str):Prop:=∀ c ∈ z.cps.toList,lowc c=true
theorem nameB_of {z:Str} (h1:1<=z.length) (h2:z.length<=6) (h:Low z):nameB z=true:=by
 unfold nameB
 rw [decide_eq_true h1,decide_eq_true h2,List.all_eq_true.mpr h]
 rfl
theorem low_of {z:Str} (h:nameB z=true):1<=z.length/\z.length<=6/\Low z:=by
 unfold nameB at h
 rw [Bool.and_eq_true,Bool.and_eq_true,decide_eq_true_eq,decide_eq_true_eq,List.all_eq_true] at h
 exact ⟨h.1.1,h.1.2,h.2⟩
theorem len_le_of_sub {α:Type} [BEq α] [LawfulBEq α]:∀ {l xs:List α},l.Nodup->(∀ x ∈ l,x ∈ xs)->l.length<=xs.length
 | [],_,_,_=>Nat.zero_le _
 | a :: l,xs,hn,hs=>by
  have ha:=hs a List.mem_cons_self
  have hn':=List.nodup_cons.mp hn
  have:=len_le_of_sub (l:=l) (xs:=xs.erase a) hn'.2 fun x hx=>(List.mem_erase_of_ne (show x ≠ a from fun e=>hn'.1 (by rw [<-e]; exact hx))).mpr (hs x (List.mem_cons_of_mem _ hx))
  rw [List.length_erase_of_mem ha] at this
  have:0 < xs.length:=List.length_pos_of_mem ha
  rw [List.length_cons]
  (first|lia|omega)
theorem CompOk.caught {X:Cx} {scope:Scope} {cl:List (Str × Addr)} (clos:closureFor scope X.env=pure cl) (hcell:∀ y ∈ scope.names,y.2 ≠ .cell) (hkind:scope.kind=.function)
  (hnames:∀ y ∈ scope.names,y.2=.local->scope.names.lookup y.1=some .local) (hcl:∀ y ∈ cl,X.env.cells.lookup y.1=some y.2)
  (hfr:∀ y ∈ scope.names,y.2=.free->∃ c,cl.lookup y.1=some c):CompOk X scope cl:=by
 refine ⟨clos,hcell,hkind,hnames,fun x c h=>hcl _ (lookup_mem h),fun x h=>?_⟩
 have key:∀ k,(relabel scope X.env).names.lookup x=some k->k=.cell\/k=.free->∃ c,cl.lookup x=some c:=by
  intro k e hk
  have m:=lookup_mem e
  obtain ⟨⟨n,k'⟩,hm,e'⟩:=List.mem_map.mp m
  dsimp only at e'
  by_cases hf:k'=.free
  ·subst hf
   have en:n=x:=by
    by_cases hc:(NameKind.free == NameKind.free && X.env.scope.kind == .function && X.env.kindOf n == some .cell)=true
    ·rw [if_pos hc] at e'
     injection e'
    ·rw [if_neg hc] at e'
     injection e'
   subst en
   exact hfr _ hm rfl
  ·have:(k' == NameKind.free)=false:=by
    cases k' <;> first | rfl | exact absurd rfl hf
   rw [this] at e'
   simp at e'
   rcases hk with hk | hk
   ·exact absurd (e'.2.trans hk) (hcell _ hm)
   ·exact absurd (e'.2.trans hk) hf
 rcases h with h | h
 ·exact key _ h (.inl rfl)
 ·exact key _ h (.inr rfl)
theorem Carry.of {X:Cx} {cl:List (Str × Addr)} {scope:Scope} {N:List Str} {σ:St} (js:List (Option Nat)) (hl:js.length=N.length)
  (h:∀ (i j:Nat) (x:Str),N[i]? = some x->js[i]? = some (some j)->X.N[j]? = some x/\(X.env.kindOf x=some .cell\/X.env.kindOf x=some .free)/\((relabel scope X.env).names.lookup x=some .cell\/(relabel scope X.env).names.lookup x=some .free)) :
  Carry X cl scope N σ (js.map fun j=>j.bind fun j=>(σ[j]?).join):=by
 refine ⟨by rw [List.length_map,hl],fun i x v h1 h2=>?_⟩
 rw [List.getElem?_map] at h2
 cases e:js[i]? with
 | none=>rw [e] at h2; cases h2
 | some o=>
  rw [e] at h2
  cases o with
  | none=>cases h2
  | some j=>
   obtain ⟨a,b,c⟩:=h i j x h1 e
   refine ⟨⟨j,a,?_⟩,b,c⟩
   have h3:(σ[j]?).join=some v:=Option.some.inj h2
   cases e2:σ[j]? with
   | none=>rw [e2] at h3; cases h3
   | some o=>
    rw [e2] at h3
    have:o=some v:=h3
    rw [this]
theorem call_rng1 {X:Cx}:CallR X (.type "range") (fun xs H Q=>∃ j:Int,xs=[.int j]/\∀ q,H q=none->Q (.ref q) (upd H q (.rng 0 j))):=by
 intro pins s σ H xs us Q I r h
 obtain ⟨j,rfl,q⟩:=h
 obtain ⟨u,rfl,⟨t,rfl⟩⟩:=vals1 r
 refine call_range_1 ⟨.ref s.heap.objs.size,_,I.laid (o:=.rng 0 j) (fun b o e=>Heap.get?_push_of_some _ e) (Nat.le_refl _) ⟨_,_,_,Heap.get?_push_size _ rfl⟩,rfl,q _ I.fresh⟩
theorem vals_items {f:Nat->V}:∀ {n:Nat} {acc:Array Value},acc.size=n->(∀ (i:Nat) (v:Value),acc[i]? = some v->RelV (f i) v)->Vals ((List.range n).map f) acc.toList:=by
 intro n acc hs h
 have go:∀ (l:List Value) (k:Nat),(∀ (i:Nat) (v:Value),l[i]? = some v->RelV (f (k + i)) v)->Vals ((List.range l.length).map fun i=>f (k + i)) l:=by
  intro l
  induction l with
  | nil=>intro k _; exact .nil
  | cons v l ih=>
   intro k hh
   rw [List.length_cons,List.range_succ_eq_map,List.map_cons,List.map_map]
   refine .cons (by simpa using hh 0 v rfl) ?_
   have:=ih (k + 1) fun i u e=>by
    have:=hh (i + 1) u (by simpa using e)
    rw [show k + 1 + i=k + (i + 1) by (first|lia|omega)]
    exact this
   have e2:(fun i=>f (k + 1 + i))=((fun i=>f (k + i)) ∘ Nat.succ):=by
    funext i
    show f (k + 1 + i)=f (k + (i + 1))
    rw [show k + 1 + i=k + (i + 1) by (first|lia|omega)]
   rw [e2] at this
   exact this
 have:=go acc.toList 0 fun i v e=>by
  rw [Nat.zero_add]
  exact h i v (by simpa using e)
 simp only [Nat.zero_add,Array.length_toList,hs] at this
 exact this
theorem call_list_rng {X:Cx} (hc:X.calm=true):CallR X (.type "list") (fun xs H Q=>∃ (r:Addr) (n:Nat),xs=[.ref r]/\H r=some (.rng 0 n)/\n<=100000/\∀ l,H l=none->Q (.ref l) (upd H l (.lst ((List.range n).map fun (i:Nat)=>V.int (i:Int))))):=by
 intro pins s σ H xs us Q I r h
 obtain ⟨r0,n,rfl,hr,hn,q⟩:=h
 obtain ⟨u,rfl,rx⟩:=vals1 r
 cases rx
 obtain ⟨t,u,v,e⟩:=(show ObjOk X.prog X.w H s.heap r0 (.rng 0 n) from I.hok r0 _ hr)
 refine call_list_range (n:=n) (I.ok.hd hc) (show IsRange s.heap r0 0 n 1 t u v from e) (small_one (by decide) (by decide) (by (first|lia|omega)) (by (first|lia|omega))) (by rw [rangeSize_one]; split <;> (first|lia|omega)) (by (first|lia|omega)) fun h' tk acc' c' kp hS hacc=>?_
 refine ⟨.ref s.heap.objs.size,_,I.laid (o:=.lst ((List.range n).map fun (i:Nat)=>V.int (i:Int))) kp (Nat.le_refl _) ⟨?_,acc'.toList,c',?_,by simpa using hS⟩,rfl,q _ I.fresh⟩
 ·rw [List.length_map,List.length_range]
  have:100000 < sizeLine:=by decide
  (first|lia|omega)
 ·refine vals_items hacc.1 fun i v e=>?_
  obtain ⟨t,rfl⟩:=hacc.2 i v e
  exact ⟨t,by simp⟩
abbrev Way:=Str × Str × Int
def wayD (u:Way):PyData:=.tuple [.str u.1,.str u.2.1,.int u.2.2]
def Alike (u v:Way):Prop:=(u.1=v.1/\u.2.1=v.2.1)\/(u.1=v.2.1/\u.2.1=v.1)
structure Tree (xs:List Str) (k:Nat) (ws:List Way):Prop where
 of:∀ u ∈ ws,∃ i j:Nat,i < j/\j < k/\xs[i]? = some u.1/\xs[j]? = some u.2.1/\1<=u.2.2
 sep:ws.Pairwise fun u v=>¬ Alike u v
 to:∀ j,0 < j->j < k->∃ u ∈ ws,∃ i:Nat,i < j/\xs[i]? = some u.1/\xs[j]? = some u.2.1
 len:2 * ws.length<=k * (k - 1)
structure Ways (xs:List Str) (ws:List Way):Prop where
 of:∀ u ∈ ws,u.1 ∈ xs/\u.2.1 ∈ xs/\u.1 ≠ u.2.1/\1<=u.2.2
 sep:ws.Pairwise fun u v=>¬ Alike u v
 to:∀ j,0 < j->j < xs.length->∃ u ∈ ws,∃ i:Nat,i < j/\xs[i]? = some u.1/\xs[j]? = some u.2.1
 len:2 * ws.length<=xs.length * (xs.length - 1) + 10
theorem nd_get {xs:List Str} (h:xs.Nodup) {i j:Nat} {x:Str} (a:xs[i]? = some x) (b:xs[j]? = some x):i=j:=nodup_ix h a b
theorem Tree.nil (xs:List Str):Tree xs 1 []:=⟨(fun _ h=>nomatch h),List.Pairwise.nil,(fun j h1 h2=>by (first|lia|omega)),(by decide)⟩
theorem Tree.more {xs:List Str} {k:Nat} {ws us:List Way} (hn:xs.Nodup) (h:Tree xs k ws) (hk:k < xs.length) (js:List Nat) (hj:js.Nodup) (hlt:∀ j ∈ js,j < k) (h0:js ≠ [])
  (hl:us.length=js.length) (hu:∀ (q:Nat) (u:Way) (j:Nat),us[q]? = some u->js[q]? = some j->xs[j]? = some u.1/\xs[k]? = some u.2.1/\1<=u.2.2):Tree xs (k + 1) (ws ++ us):=by
 have at_:∀ u ∈ us,∃ (q j:Nat),us[q]? = some u/\js[q]? = some j/\j < k/\xs[j]? = some u.1/\xs[k]? = some u.2.1/\1<=u.2.2:=by
  intro u hm
  obtain ⟨q,hq,e⟩:=List.getElem_of_mem hm
  have e1:us[q]? = some u:=by rw [List.getElem?_eq_getElem hq,e]
  have e2:js[q]? = some js[q]:=List.getElem?_eq_getElem (by (first|lia|omega))
  obtain ⟨a,b,c⟩:=hu q u _ e1 e2
  exact ⟨q,_,e1,e2,hlt _ (List.getElem_mem _),a,b,c⟩
 refine ⟨?_,?_,?_,?_⟩
 ·intro u hm
  rcases List.mem_append.mp hm with hm | hm
  ·obtain ⟨i,j,a,b,c⟩:=h.of u hm
   exact ⟨i,j,a,by (first|lia|omega),c⟩
  ·obtain ⟨q,j,_,_,a,b,c,d⟩:=at_ u hm
   exact ⟨j,k,a,by (first|lia|omega),b,c,d⟩
 ·rw [List.pairwise_append]
  refine ⟨h.sep,?_,?_⟩
  ·rw [List.pairwise_iff_getElem]
   intro q r hq hr hqr al
   have a1:=hu q us[q] js[q] (List.getElem?_eq_getElem hq) (List.getElem?_eq_getElem (by (first|lia|omega)))
   have a2:=hu r us[r] js[r] (List.getElem?_eq_getElem hr) (List.getElem?_eq_getElem (by (first|lia|omega)))
   have l1:=hlt js[q] (List.getElem_mem _)
   have l2:=hlt js[r] (List.getElem_mem _)
   rcases al with ⟨e1,_⟩ | ⟨e1,_⟩
   ·have a3:=a1.1
    rw [e1] at a3
    have ej:=nd_get hn a3 a2.1
    exact absurd ((List.getElem_inj hj).mp ej) (by (first|lia|omega))
   ·have a3:=a1.1
    rw [e1] at a3
    have ej:=nd_get hn a3 a2.2.1
    (first|lia|omega)
  ·intro u hu1 v hv al
   obtain ⟨i,j,hij,hjk,e1,e2,_⟩:=h.of u hu1
   obtain ⟨q,m,_,_,hm,e3,e4,_⟩:=at_ v hv
   rcases al with ⟨_,z⟩ | ⟨z,_⟩
   ·rw [z] at e2
    have:=nd_get hn e2 e4
    (first|lia|omega)
   ·rw [z] at e1
    have:=nd_get hn e1 e4
    (first|lia|omega)
 ·intro j h1 h2
  by_cases e:j=k
  ·subst e
   cases us with
   | nil=>
    cases js with
    | nil=>exact absurd rfl h0
    | cons _ _=>cases hl
   | cons u us=>
    obtain ⟨q,m,_,_,hm,e3,e4,_⟩:=at_ u List.mem_cons_self
    exact ⟨u,List.mem_append_right _ List.mem_cons_self,m,hm,e3,e4⟩
  ·obtain ⟨u,hm,i,a,b⟩:=h.to j h1 (by (first|lia|omega))
   exact ⟨u,List.mem_append_left _ hm,i,a,b⟩
 ·have:=h.len
  have hjl:js.length<=k:=by
   have:=len_le_of_sub (l:=js) (xs:=List.range k) hj fun j hm=>List.mem_range.mpr (hlt j hm)
   rwa [List.length_range] at this
  rw [List.length_append,hl]
  show 2 * (ws.length + js.length)<=(k + 1) * (k + 1 - 1)
  rw [Nat.add_sub_cancel]
  have e:(k + 1) * k=k * (k - 1) + 2 * k:=by
   cases k with
   | zero=>rfl
   | succ k=>
    rw [Nat.add_sub_cancel]
    simp only [Nat.succ_mul,Nat.mul_succ,Nat.add_mul,Nat.mul_add]
    (first|lia|omega)
  (first|lia|omega)
theorem Tree.ways {xs:List Str} {ws:List Way} (hn:xs.Nodup) (h:Tree xs xs.length ws):Ways xs ws:=by
 refine ⟨fun u hm=>?_,h.sep,h.to,by have:=h.len; (first|lia|omega)⟩
 obtain ⟨i,j,a,b,c,d,e⟩:=h.of u hm
 refine ⟨List.mem_of_getElem? c,List.mem_of_getElem? d,fun z=>?_,e⟩
 rw [z] at c
 have:=nd_get hn c d
 (first|lia|omega)
def WaysC (xs:List Str) (ws:List Way):Prop:=(∀ u ∈ ws,u.1 ∈ xs/\u.2.1 ∈ xs/\u.1 ≠ u.2.1/\1<=u.2.2)/\(ws.Pairwise fun u v=>¬ Alike u v) /\
 ∀ j,0 < j->j < xs.length->∃ u ∈ ws,∃ i:Nat,i < j/\xs[i]? = some u.1/\xs[j]? = some u.2.1
theorem Ways.c {xs:List Str} {ws:List Way} (h:Ways xs ws):WaysC xs ws:=⟨h.of,h.sep,h.to⟩
theorem WaysC.snoc {xs:List Str} {ws:List Way} {x y:Str} {n:Int} (h:WaysC xs ws) (hx:x ∈ xs) (hy:y ∈ xs) (ne:x ≠ y) (hn:1<=n) (no:∀ u ∈ ws,¬ ((x=u.1\/x=u.2.1)/\(y=u.1\/y=u.2.1))):WaysC xs (ws ++ [(x,y,n)]):=by
 refine ⟨fun u hu=>?_,?_,fun j h1 h2=>?_⟩
 ·rcases List.mem_append.mp hu with hu | hu
  ·exact h.1 u hu
  ·rw [List.mem_singleton.mp hu]; exact ⟨hx,hy,ne,hn⟩
 ·rw [List.pairwise_append]
  refine ⟨h.2.1,List.pairwise_singleton _ _,fun u hu v hv al=>?_⟩
  rw [List.mem_singleton.mp hv] at al
  refine no u hu ?_
  rcases al with ⟨e1,e2⟩ | ⟨e1,e2⟩
  ·exact ⟨.inl e1.symm,.inr e2.symm⟩
  ·exact ⟨.inr e2.symm,.inl e1.symm⟩
 ·obtain ⟨u,hu,r⟩:=h.2.2 j h1 h2
  exact ⟨u,List.mem_append_left _ hu,r⟩
theorem dats_len {H:Hp}:∀ {vs:List V} {ds:List PyData},Dats H vs ds->vs.length=ds.length
 | _,_,.nil=>rfl
 | _,_,.cons _ r=>by rw [List.length_cons,List.length_cons,dats_len r]
theorem dats_way {H:Hp}:∀ {vs:List V} {ws:List Way} {i:Nat} {x:V},Dats H vs (ws.map wayD)->vs[i]? = some x->∃ u t,ws[i]? = some u/\x=.ref t/\H t=some (.tup [.str u.1,.str u.2.1,.int u.2.2])
 | _,[],i,x,.nil,e=>by cases e
 | _,u :: ws,0,x,.cons (v:=v) h _,e=>by
  have e':v=x:=by simpa using e
  subst e'
  cases h with
  | tup ha hd=>
   refine ⟨u,_,rfl,rfl,?_⟩
   cases hd with
   | cons h1 r1=>
    cases r1 with
    | cons h2 r2=>
     cases r2 with
     | cons h3 r3=>
      cases r3
      cases h1
      cases h2
      cases h3
      exact ha
 | _,u :: ws,i + 1,x,.cons _ r,e=>by
  obtain ⟨u',t,a,b⟩:=dats_way (i:=i) (x:=x) r (by simpa using e)
  exact ⟨u',t,by simpa using a,b⟩
theorem dats_app {H:Hp}:∀ {vs us:List V} {ds es:List PyData},Dats H vs ds->Dats H us es->Dats H (vs ++ us) (ds ++ es)
 | _,_,_,_,.nil,h=>h
 | _,_,_,_,.cons a r,h=>.cons a (dats_app r h)
theorem ix_listK (K:PySem.W.Frag) {X:Cx} (h:X.K=K):IxR X (rIxL K):=by subst h; exact ix_list
theorem ix_tupK (K:PySem.W.Frag) {X:Cx} (h:X.K=K):IxR X (rIxT K):=by subst h; exact ix_tup
theorem pg_tupK (K:PySem.W.Frag) {X:Cx} (h:X.K=K) {es:List Expr} {k:Nat} {t:TGs} {n:Nat} {pos:Pos} (hc:X.calm=true) (ht:PGs X es t)
  (hn:(assignEach es X.env).length=n:=by rfl) (hst:(assignEach es X.env).findIdx? (·.1)=none:=by rfl):PG X (.Tuple es k pos) (gTup K n t):=by subst h; exact pg_tup hc ht hn hst
end L2
namespace L2
open PySem PySem.W PyProof.Rows
section
variable {n:Nat} (hn:0 < n)
include hn
end
end L2
namespace L2
open PySem PySem.Spec PyProof.Rows PySem.W
end L2
namespace L2
open PySem PySem.Spec PyProof.Rows
section
variable {prog:Program} {w:World} {A:Around} {E:Value->Shared->Prop} {s:Shared}
end
def minS (a b:Str):Str:=if b.cps.toList < a.cps.toList then b else a
def maxS (a b:Str):Str:=if a.cps.toList < b.cps.toList then b else a
theorem strs_of {ss:List Str}:∀ {us:List Value},Vals (ss.map V.str) us->StrsAre us ss:=by
 induction ss with
 | nil=>intro us r; cases r; exact .nil
 | cons x ss ih=>
  intro us r
  cases r with
  | cons r1 r2=>
   obtain ⟨t,rfl⟩:=r1
   exact .cons x t (ih r2)
theorem of_strs:∀ {us:List Value} {ss:List Str},StrsAre us ss->Vals (ss.map V.str) us
 | _,_,.nil=>.nil
 | _,_,.cons x t r=>.cons ⟨t,rfl⟩ (of_strs r)
theorem call_sorted_strs {X:Cx}:CallR X (.builtin "sorted") (fun xs H Q=>∃ (a:Addr) (ss:List Str),xs=[.ref a]/\SqL X.K H a (ss.map V.str)/\ss.length < 64 /\
  ∀ (l:Addr) (ss':List Str),H l=none->ss'.Perm ss->sortedS ss'=true->Q (.ref l) (upd H l (.lst (ss'.map V.str)))):=by
 intro pins s σ H xs us Q I r h
 obtain ⟨a,ss,rfl,ha,h64,q⟩:=h
 obtain ⟨u,rfl,ru⟩:=vals1 r
 cases ru
 obtain ⟨its,rv,pl,hz⟩:=I.list ha
 have hl:its.length=ss.length:=by rw [<-rv.length,List.length_map]
 refine sorted_strs pl.isList (strs_of rv) (by (first|lia|omega)) fun out ss' h1 h2 h3=>?_
 obtain ⟨e,he⟩:=sortedAll_at s.heap its out
 refine ⟨.ref (s.heap.objs.size + 1),_,I.laid (o:=.lst (ss'.map V.str)) (t':=s.toks) (fun b o z=>sortedAll_old z) (Nat.le_succ _) ⟨?_,out.toList,e,of_strs h1,by simpa using he⟩,rfl,q _ ss' (I.hok.fresh (Nat.le_succ _)) h2 h3⟩
 rw [List.length_map,h2.length_eq]
 have:100 < sizeLine:=by decide
 (first|lia|omega)
end L2
namespace L2
open PySem PySem.Spec PySem.W PyProof.Rows
theorem pairs_two {vs:List Value} {p:Keyed} (h:p ∈ (pairsOf vs).toList):p=(p.2,p.2)/\p.2 ∈ vs:=by
 rw [pairsOf_toList] at h
 obtain ⟨e,m⟩:=mem_zip_self h
 refine ⟨?_,e ▸ m⟩
 obtain ⟨x,y⟩:=p
 exact Prod.ext e rfl
theorem pairs_snd (vs:List Value):(pairsOf vs).toList.map (·.2)=vs:=by
 rw [pairsOf_toList]
 induction vs with
 | nil=>rfl
 | cons v vs ih=>rw [List.zip_cons_cons,List.map_cons,ih]
theorem out_perm {vs:List Value} {xs:Array Keyed} (h:xs.Perm (pairsOf vs)):(xs.toList.map (·.2)).Perm vs:=by
 have q:=(Array.perm_iff_toList_perm.mp h).map (·.2)
 rw [pairs_snd] at q
 exact q
section
variable {prog:Program} {w:World} {A:Around} {E:Value->Shared->Prop} {s:Shared} {lt:Keyed->Keyed->Bool}
def Cmpd (prog:Program) (w:World) (s:Shared) (lt:Keyed->Keyed->Bool) (vs:List Value):Prop:=
 2<=vs.length->∀ (A:Around) (h':Heap),(∀ b o,s.heap.get? b=some o->h'.get? b=some o) ->
  ∃ κ,(∀ (Q:SortKind->Shared->Prop) (E:Value->Shared->Prop),Q κ { s with heap:=h' }->wpAny (model prog w) A (keyKind' vs.toArray) Q E { s with heap:=h' })/\Ans prog w A { s with heap:=h' } κ lt (pairsOf vs)
end
inductive Atm where
 | i (n:Int)
 | s (x:Str)
 deriving DecidableEq
def atmLt:Atm->Atm->Bool
 | .i a,.i b=>decide (a < b)
 | .s a,.s b=>decide (a.cps.toList < b.cps.toList)
 | .i _,.s _=>true
 | .s _,.i _=>false
def lexLt:List Atm->List Atm->Bool
 | [],[]=>false
 | [],_ :: _=>true
 | _ :: _,[]=>false
 | x :: xs,y :: ys=>if x=y then lexLt xs ys else atmLt x y
def atmOf:Value->Atm
 | .int n _=>.i n
 | .str x _=>.s x
 | _=>.i 0
def vAtm:V->Atm
 | .int n=>.i n
 | .str x=>.s x
 | _=>.i 0
def keyIn (h:Heap):Value->List Atm
 | .ref a=>match h.get? a with
  | some o=>(match o.data with
   | .seq xs _=>xs.toList.map atmOf
   | _=>[])
  | none=>[]
 | v=>[atmOf v]
def keyV (H:Hp):V->List Atm
 | .ref a=>match H a with
  | some (.tup ys)=>ys.map vAtm
  | _=>[]
 | v=>[vAtm v]
def KindV (k:Bool) (v:V):Prop:=if k=true then ∃ x,v=.str x else ∃ n,v=.int n
def KindU (k:Bool) (v:Value):Prop:=if k=true then ∃ x t,v=.str x t else ∃ n t,v=.int n t
theorem kind_uv {k:Bool} {v:V} {u:Value} (r:RelV v u) (h:KindV k v):KindU k u/\atmOf u=vAtm v:=by
 unfold KindV at h
 unfold KindU
 cases k with
 | true=>
  simp only [if_true] at h ⊢
  obtain ⟨x,rfl⟩:=h
  obtain ⟨t,rfl⟩:=r
  exact ⟨⟨x,t,rfl⟩,rfl⟩
 | false=>
  simp only [Bool.false_eq_true,if_false] at h ⊢
  obtain ⟨x,rfl⟩:=h
  obtain ⟨t,rfl⟩:=r
  exact ⟨⟨x,t,rfl⟩,rfl⟩
def TupK (H:Hp) (kd:Nat->Bool) (v:V):Prop:=∃ t ys,v=.ref t/\H t=some (.tup ys)/\ys ≠ []/\∀ i y,ys[i]? = some y->KindV (kd i) y
def TupU (h:Heap) (kd:Nat->Bool) (v:Value):Prop:=∃ t o xs n,v=.ref t/\h.get? t=some o/\o.cls=.type "tuple"/\o.data=.seq xs n/\0 < xs.size/\∀ (i:Nat) x,xs.toList[i]? = some x->KindU (kd i) x
theorem tup_uv {X:Cx} {pins:List (Addr × Obj)} {σ:St} {H:Hp} {s:Shared} (I:Inv X pins σ H s) {kd:Nat->Bool} {v:V} {u:Value} (r:RelV v u) (h:TupK H kd v):TupU s.heap kd u/\keyIn s.heap u=keyV H v:=by
 obtain ⟨t,ys,rfl,ht,ne,hy⟩:=h
 cases r
 obtain ⟨_,its,rv,⟨o,ho,hc,n,hd⟩,_⟩:=(show ObjOk X.prog X.w H s.heap t (.tup _) from I.hok t _ ht)
 have e:keyV H (.ref t)=ys.map vAtm:=by
  show (match H t with | some (.tup ys)=>ys.map vAtm | _=>[])=_
  rw [ht]
 have e2:keyIn s.heap (.ref t)=its.map atmOf:=by
  show (match s.heap.get? t with | some o=>(match o.data with | .seq xs _=>xs.toList.map atmOf | _=>[]) | none=>[])=_
  rw [ho]
  dsimp only
  rw [hd]
 have all:∀ {ys:List V} {its:List Value} (k:Nat),Vals ys its->(∀ i y,ys[i]? = some y->KindV (kd (k + i)) y)->(∀ (i:Nat) x,its[i]? = some x->KindU (kd (k + i)) x)/\its.map atmOf=ys.map vAtm:=by
  intro ys
  induction ys with
  | nil=>intro its k rv _; cases rv; exact ⟨fun i x e=>by simp at e,rfl⟩
  | cons y ys ih=>
   intro its k rv hy
   cases rv with
   | cons r1 r2=>
    obtain ⟨a1,a2⟩:=kind_uv r1 (hy 0 y rfl)
    obtain ⟨b1,b2⟩:=ih (k + 1) r2 fun i z e=>by
     have:=hy (i + 1) z (by simpa using e)
     rw [show k + 1 + i=k + (i + 1) by (first|lia|omega)]
     exact this
    refine ⟨fun i x e=>?_,by rw [List.map_cons,List.map_cons,a2,b2]⟩
    cases i with
    | zero=>
     rw [List.getElem?_cons_zero] at e
     cases e
     exact a1
    | succ i=>
     have:=b1 i x (by simpa using e)
     rw [show k + 1 + i=k + (i + 1) by (first|lia|omega)] at this
     exact this
 obtain ⟨a1,a2⟩:=all 0 rv fun i y e=>by rw [Nat.zero_add]; exact hy i y e
 refine ⟨⟨t,o,its.toArray,n,rfl,ho,hc,hd,?_,fun i x e=>?_⟩,by rw [e,e2,a2]⟩
 ·have:=rv.length
  have:0 < ys.length:=List.length_pos_iff.mpr ne
  simp
  (first|lia|omega)
 ·have:=a1 i x (by simpa using e)
  rw [Nat.zero_add] at this
  exact this
section
variable {prog:Program} {w:World} {A:Around} {E:Value->Shared->Prop} {s:Shared} {Q:Bool->Shared->Prop}
theorem one_atm {k b:Bool} {u v:Value} (hu:KindU k u) (hv:KindU k v) (h:Q (atmLt (atmOf u) (atmOf v)) s):wpAny (model prog w) A (oneLt' b u v) Q E s:=by
 unfold KindU at hu hv
 cases k with
 | true=>
  simp only [if_true] at hu hv
  obtain ⟨x,t,rfl⟩:=hu
  obtain ⟨y,t',rfl⟩:=hv
  cases b with
  | true=>exact oneLt_str h
  | false=>exact kat_one _ _ (PySem.P.lt_str h)
 | false=>
  simp only [Bool.false_eq_true,if_false] at hu hv
  obtain ⟨x,t,rfl⟩:=hu
  obtain ⟨y,t',rfl⟩:=hv
  cases b with
  | true=>exact oneLt_int h
  | false=>exact kat_one _ _ (lt_int h)
theorem eq_atm {k:Bool} {u v:Value} (hu:KindU k u) (hv:KindU k v):SeqAt.EqAt A s u v (decide (atmOf u=atmOf v)):=by
 unfold KindU at hu hv
 cases k with
 | true=>
  simp only [if_true] at hu hv
  obtain ⟨x,t,rfl⟩:=hu
  obtain ⟨y,t',rfl⟩:=hv
  have e:decide (atmOf (.str x t)=atmOf (.str y t'))=(x == y):=by
   show decide (Atm.s x=Atm.s y)=_
   rw [Bool.eq_iff_iff]
   simp
  rw [e]
  exact SeqAt.EqAt.str_str x t y t'
 | false=>
  simp only [Bool.false_eq_true,if_false] at hu hv
  obtain ⟨x,t,rfl⟩:=hu
  obtain ⟨y,t',rfl⟩:=hv
  have e:decide (atmOf (.int x t)=atmOf (.int y t'))=(x == y):=by
   show decide (Atm.i x=Atm.i y)=_
   rw [Bool.eq_iff_iff]
   simp
  rw [e]
  exact SeqAt.EqAt.int_int x t y t'
theorem kat_atoms {b:Bool} {kd:Nat->Bool}:∀ (xs ys:List Value) (i:Nat),(∀ (j:Nat) x,xs[j]? = some x->KindU (kd (i + j)) x)->(∀ (j:Nat) x,ys[j]? = some x->KindU (kd (i + j)) x) ->
  Q (lexLt (xs.map atmOf) (ys.map atmOf)) s->KatLex prog w A b (decide (xs.length < ys.length)) Q (xs.zip ys) i s
 | [],[],i,_,_,h=>h
 | [],y :: ys,i,_,_,h=>h
 | x :: xs,[],i,_,_,h=>h
 | x :: xs,y :: ys,i,hx,hy,h=>by
  have kx:KindU (kd i) x:=hx 0 x rfl
  have ky:KindU (kd i) y:=hy 0 y rfl
  rw [List.map_cons,List.map_cons] at h
  unfold lexLt at h
  refine kat_cons (eq_atm kx ky _ _ _ _ ?_)
  refine kat_go (fun e=>kat_yes ?_) (fun e=>kat_no (one_atm kx ky ?_))
  ·have e':=of_decide_eq_true e
   rw [if_pos e'] at h
   have r:=kat_atoms (b:=b) (kd:=kd) xs ys (i + 1) (fun j z e=>by rw [show i + 1 + j=i + (j + 1) by (first|lia|omega)]; exact hx (j + 1) z (by simpa using e)) (fun j z e=>by rw [show i + 1 + j=i + (j + 1) by (first|lia|omega)]; exact hy (j + 1) z (by simpa using e)) h
   have e2:decide ((x :: xs).length < (y :: ys).length)=decide (xs.length < ys.length):=by simp
   rw [e2]
   exact r
  ·have e':=of_decide_eq_false e
   rw [if_neg e'] at h
   exact h
theorem tup_lt {kd:Nat->Bool} {u v:Value} (hu:TupU s.heap kd u) (hv:TupU s.heap kd v) (h:Q (lexLt (keyIn s.heap u) (keyIn s.heap v)) s):wpAny (model prog w) A (keyLt' (tuples' true) u v) Q E s:=by
 obtain ⟨t,o,xs,n,rfl,ho,hc,hd,p,hx⟩:=hu
 obtain ⟨t',o',xs',n',rfl,ho',hc',hd',p',hx'⟩:=hv
 have e1:keyIn s.heap (.ref t)=xs.toList.map atmOf:=by
  show (match s.heap.get? t with | some o=>(match o.data with | .seq xs _=>xs.toList.map atmOf | _=>[]) | none=>[])=_
  rw [ho]
  dsimp only
  rw [hd]
 have e2:keyIn s.heap (.ref t')=xs'.toList.map atmOf:=by
  show (match s.heap.get? t' with | some o=>(match o.data with | .seq xs _=>xs.toList.map atmOf | _=>[]) | none=>[])=_
  rw [ho']
  dsimp only
  rw [hd']
 rw [e1,e2] at h
 refine kat_lt ho hd ho' hd' ?_
 have e3:decide (xs.size < xs'.size)=decide (xs.toList.length < xs'.toList.length):=by simp
 rw [e3]
 exact kat_atoms (kd:=kd) _ _ 0 (fun j x e=>by rw [Nat.zero_add]; exact hx j x e) (fun j x e=>by rw [Nat.zero_add]; exact hx' j x e) h
theorem tups_cmpd {kd:Nat->Bool} {vs:List Value} (h:∀ v ∈ vs,TupU s.heap kd v):Cmpd prog w s (fun x y=>lexLt (keyIn s.heap x.1) (keyIn s.heap y.1)) vs:=by
 intro h2 A h' kp
 have h1:∀ v ∈ vs,TupU h' kd v/\keyIn h' v=keyIn s.heap v:=fun v hv=>by
  obtain ⟨t,o,xs,n,rfl,ho,hc,hd,p,hx⟩:=h v hv
  refine ⟨⟨t,o,xs,n,rfl,kp t o ho,hc,hd,p,hx⟩,?_⟩
  show (match h'.get? t with | some o=>(match o.data with | .seq xs _=>xs.toList.map atmOf | _=>[]) | none=>[])=(match s.heap.get? t with | some o=>(match o.data with | .seq xs _=>xs.toList.map atmOf | _=>[]) | none=>[])
  rw [ho,kp t o ho]
 refine ⟨tuples' true,?_,?_⟩
 ·intro Q E hq
  have tups:∀ l:List Value,(∀ v ∈ l,TupU h' kd v)->∃ fs:List Value,KatTups h' l fs/\fs.length=l.length/\∀ f ∈ fs,KindU (kd 0) f:=by
   intro l
   induction l with
   | nil=>intro _; exact ⟨[],KatTups.nil,rfl,fun f hf=>nomatch hf⟩
   | cons v l ih=>
    intro hl
    obtain ⟨fs,k1,k2,k3⟩:=ih fun v hv=>hl v (List.mem_cons_of_mem _ hv)
    obtain ⟨t,o,xs,n,rfl,ho,hc,hd,p,hx⟩:=hl v List.mem_cons_self
    have g:xs[0]? = some xs[0]:=Array.getElem?_eq_getElem p
    refine ⟨xs[0] :: fs,KatTups.cons ho hc hd g k1,by rw [List.length_cons,List.length_cons,k2],fun f hf=>?_⟩
    rcases List.mem_cons.mp hf with rfl | hf
    ·exact hx 0 _ (by rw [Array.getElem?_toList]; exact g)
    ·exact k3 f hf
  obtain ⟨fs,k1,k2,k3⟩:=tups vs fun v hv=>(h1 v hv).1
  cases ek:kd 0 with
  | true=>
   refine kat_kind (T:=.type "str") k1 (by (first|lia|omega)) (fun v hv=>?_) rfl hq
   have q:=k3 v hv
   unfold KindU at q
   rw [ek] at q
   simp only [if_true] at q
   obtain ⟨x,t,rfl⟩:=q
   exact Looks.now
  | false=>
   refine kat_kind (T:=.type "int") k1 (by (first|lia|omega)) (fun v hv=>?_) rfl hq
   have q:=k3 v hv
   unfold KindU at q
   rw [ek] at q
   simp only [Bool.false_eq_true,if_false] at q
   obtain ⟨x,t,rfl⟩:=q
   exact Looks.now
 ·intro x y hx hy Q E hq
  obtain ⟨ex,mx⟩:=pairs_two (vs:=vs) (p:=x) (by simpa using hx)
  obtain ⟨ey,my⟩:=pairs_two (vs:=vs) (p:=y) (by simpa using hy)
  rw [ex,ey] at hq ⊢
  dsimp only at hq ⊢
  refine tup_lt (h1 _ mx).1 (h1 _ my).1 ?_
  show Q (lexLt (keyIn h' x.2) (keyIn h' y.2)) _
  rw [(h1 _ mx).2,(h1 _ my).2]
  exact hq
end
theorem vals_perm {us us':List Value} (p:us'.Perm us):∀ {vs:List V},Vals vs us->∃ vs',Vals vs' us'/\vs'.Perm vs:=by
 induction p with
 | nil=>intro vs h; exact ⟨vs,h,.refl _⟩
 | cons x p ih=>
  intro vs h
  cases h with
  | cons h1 h2=>
   obtain ⟨vs',a,b⟩:=ih h2
   exact ⟨_ :: vs',.cons h1 a,b.cons _⟩
 | swap x y l=>
  intro vs h
  cases h with
  | cons h1 h2=>
   cases h2 with
   | cons h3 h4=>exact ⟨_ :: _ :: _,.cons h3 (.cons h1 h4),.swap _ _ _⟩
 | trans p1 p2 ih1 ih2=>
  intro vs h
  obtain ⟨vs1,a1,b1⟩:=ih2 h
  obtain ⟨vs2,a2,b2⟩:=ih1 a1
  exact ⟨vs2,a2,b2.trans b1⟩
end L2
namespace L2
open PySem PySem.Spec PyProof.Rows
section
variable {prog:Program} {w:World} {A:Around} {E:Value->Shared->Prop} {s:Shared}
end
def norm (u:Way):Way:=(minS u.1 u.2.1,maxS u.1 u.2.1,u.2.2)
theorem dats_perm {H:Hp} {vs vs':List V} (p:vs'.Perm vs):∀ {ws:List Way},Dats H vs (ws.map wayD)->∃ ws':List Way,Dats H vs' (ws'.map wayD)/\ws'.Perm ws:=by
 induction p with
 | nil=>intro ws h; exact ⟨ws,h,.refl _⟩
 | cons x p ih=>
  intro ws h
  cases ws with
  | nil=>cases h
  | cons u ws=>
   cases h with
   | cons h1 h2=>
    obtain ⟨ws',a,b⟩:=ih h2
    exact ⟨u :: ws',.cons h1 a,b.cons u⟩
 | swap x y l=>
  intro ws h
  cases ws with
  | nil=>cases h
  | cons u ws=>
   cases h with
   | cons h1 h2=>
    cases ws with
    | nil=>cases h2
    | cons v ws=>
     cases h2 with
     | cons h3 h4=>exact ⟨v :: u :: ws,.cons h3 (.cons h1 h4),.swap u v ws⟩
 | trans p1 p2 ih1 ih2=>
  intro ws h
  obtain ⟨ws1,a1,b1⟩:=ih2 h
  obtain ⟨ws2,a2,b2⟩:=ih1 a1
  exact ⟨ws2,a2,b2.trans b1⟩
theorem ps_comp {X:Cx} {ix:Nat} {x:Str} {px spos:Pos} {tg iter elt:Expr} {ifs:List Expr} {scope:Scope} {cl:List (Str × Addr)} {N:List Str} {pos:Pos} {wi:TI} {g:TG} {tt:TT} {te:TE} {σ0:St->St} (hN:X.N.Nodup) (hix:X.N[ix]? = some x) (hlx:Loc X.env.scope x) (hc:X.calm=true) (co:CompOk X scope cl)
  (hσ:∀ σ,σ.length=X.N.length->Carry X cl scope N σ (σ0 σ)) (hi:PI X tg iter wi)
  (hb:∀ s2 H C fp,PG (compCx X scope cl N s2 H C fp) tg g/\PTs (compCx X scope cl N s2 H C fp) ifs tt/\PE (compCx X scope cl N s2 H C fp) elt te)
  (hsw:swapsWith (.ListComp elt [⟨tg,iter,ifs,0⟩] scope pos) (some (.Name x px)) spos.line X.env=pure true:=by rfl)
  (hs:∀ x,foldedSetIterable iter X.env x=pure x:=by intro _; rfl) (hf:X.fn x=true\/X.env.scope.names.lookup x=some .local:=by first | exact .inl rfl | exact .inr rfl | assumption) :
  PS X (.Assign [.Name x px] (.ListComp elt [⟨tg,iter,ifs,0⟩] scope pos) spos) (tAsg (tComp wi g tt te σ0) (gName ix)):=by
 intro pins s σ H DD I h
 rw [exec_Assign_Name_used _ _ _ _ hsw]
 refine wpAny_bind (wpAny_standAt (wpAny_bind ?_))
 show wpAny _ X.A (do let _ <- comprehension (.ListComp elt [⟨tg,iter,ifs,0⟩] scope pos) scope X.env _ (newList []) false (eval iter X.env) (some (assign (.Name x px) X.env))) _ _ s
 refine wpAny_bind (wpAny_mono (wpAny_comprehension_free (use:=some (assign (.Name x px) X.env)) (Q:=fun _ s'=>SP X pins DD .next s') rfl hs co.clos co.kind co.names
  (wpAny_mono (hi pins s σ H _ I h) (fun xv s1 h1=>wpAny_mono h1 (fun itv s2 h2=>?_) fun _ _ e=>e) fun _ _ e=>e)) (fun _ s' hq=>wpAny_pure (wpAny_pure hq)) fun _ _ e=>e)
 obtain ⟨it,fp,tn,J,H2,rfl,I2,T,st2,f2,hW⟩:=h2
 refine wpAny_newObj_type (wpAny_newFunctionEnv co.cell (by intro y hy; cases hy) (fun h₁ hns₁ hsb₁=>?_) co.kind)
 dsimp only at hns₁ hsb₁ ⊢
 generalize hH2:s2.heap.push { cls:=.type "list",dict:=none,data:=.seq ([]:List Value).toArray } = HH at hns₁ hsb₁ ⊢
 have hCsz:HH.objs.size=s2.heap.objs.size + 1:=by rw [<-hH2,Heap.size_push]
 have old:∀ b o,s2.heap.get? b=some o->h₁.get? b=some o:=fun b o e=>
  hsb₁.extBut b o (Nat.ne_of_lt (by rw [hCsz]; exact Nat.lt_succ_of_lt (Heap.lt_size e))) (Heap.get?_push_of_some _ (hH2 ▸ Heap.get?_push_of_some _ e))
 have newD:∃ n,h₁.get? s2.heap.objs.size=some { cls:=.type "list",data:=.seq ([]:List Value).toArray n }:=
  ⟨_,hsb₁.extBut _ _ (Nat.ne_of_lt (by rw [hCsz]; exact Nat.lt_succ_self _)) (Heap.get?_push_of_some _ (hH2 ▸ Heap.get?_push_size _ rfl))⟩
 obtain ⟨W,⟨m0,w0⟩,turn⟩:=hW s2.heap.objs.size I2.fresh
 have hfo:∀ b ∈ fp,∃ o,s2.heap.get? b=some o:=fun b hb=>let ⟨o,e,_⟩:=T.obj _ _ st2 b hb; ⟨o,e⟩
 have I3:Inv (compCx X scope cl N s2 H2 HH.objs.size fp) [] (σ0 σ) (upd H2 s2.heap.objs.size (.lst [])) { s2 with heap:=h₁,toks:=s2.toks + ([]:List (Str × Value)).length }:=
  comp_start I2 f2 hfo co (hσ σ I.len) old (Nat.le_refl _) (by rw [hCsz]; exact Nat.le_succ _) (Nat.ne_of_gt (by rw [hCsz]; exact Nat.lt_succ_self _)) (.inr newD) hns₁
 have fC:s2.heap.objs.size<=HH.objs.size:=by rw [hCsz]; exact Nat.le_succ _
 obtain ⟨hg,ht,he⟩:=hb s2 H2 HH.objs.size fp
 have loop:∀ s₃:Shared,s₃ = { s2 with heap:=h₁,toks:=s2.toks + ([]:List (Str × Value)).length } ->
   codeAny (model X.prog X.w) X.A (.compLoop (.ListComp elt [⟨tg,iter,ifs,0⟩] scope pos) 0 (.ref it) (.ref s2.heap.objs.size) (compEnvC scope cl HH.objs.size X.env))
    (compPost (model X.prog X.w) X.A X.xe (some (assign (.Name x px) X.env)) (fun _ s'=>SP X pins DD .next s') (.ref s2.heap.objs.size) HH.objs.size) s₃:=by
  rintro s₃ rfl
  have stat:∀ {H':Hp} ,(∀ b ∈ fp,H' b=none)->∀ b ∈ fp,FpOk (compCx X scope cl N s2 H2 HH.objs.size fp) [] H' b:=fun hn b hb=>by
   refine ⟨hn b hb,?_,?_,.inl hb,?_,fun p hp=>by cases hp⟩
   ·obtain ⟨o,e⟩:=hfo b hb
    exact Nat.ne_of_lt (show b < HH.objs.size by rw [hCsz]; exact Nat.lt_succ_of_lt (Heap.lt_size e))
   ·intro hz
    obtain ⟨_,q1,q2,_⟩:=f2 b hb
    rcases List.mem_cons.mp (I2.stkSub b hz) with e | e
    ·exact q1 e
    ·exact q2 e
   ·exact fun x c e=>(f2 b hb).2.2.2.2.1 x c (co.sub x c e)
  refine codeAny_compLoop_any (fun n s'=>∃ i σ' H',Inv (compCx X scope cl N s2 H2 HH.objs.size fp) [] σ' H' s'/\tn i s'.heap/\(∀ b ∈ fp,H' b=none)/\W i n σ' H') ?_ m0
   ⟨0,σ0 σ,_,I3,T.keep _ _ _ st2 fun b hb o e=>old b o e,fun b hb=>?_,w0⟩
  ·rintro n s4 ⟨i,σ4,H4,I4,st4,fr4,w4⟩
   rcases turn i n σ4 H4 w4 with ⟨stop,qn⟩ | ⟨go,step⟩
   ·refine wpAny_mono (T.done (compCx X scope cl N s2 H2 HH.objs.size fp) rfl rfl rfl hc i [] s4 σ4 H4 (fun _ _=>False) I4 (stat fr4) st4 stop) (fun r s5 ⟨hr,I5⟩=>?_) fun _ _ z=>z.elim
    subst hr
    obtain ⟨m5,hn5,_⟩:=id I5.loc
    have I6:Inv X pins σ H4 s5:=comp_end (h':=s5.heap) I2 f2 fC I5 (Heap.SameBut.refl _ _)
    have cC:∀ y c,X.env.cells.lookup y=some c->c ≠ HH.objs.size:=fun y c e=>by
     obtain ⟨v,q⟩:=I2.cell y c e
     exact Nat.ne_of_lt (Nat.lt_of_lt_of_le q.lt fC)
    have lC:X.env.locals ≠ HH.objs.size:=Nat.ne_of_lt (Nat.lt_of_lt_of_le I2.lt fC)
    show wpAny _ X.A (assign (.Name x px) X.env (.ref s2.heap.objs.size)) _ X.xe s5
    refine wpAny_assign_Name (store_ok2 I6 hN hix hlx (v:=.ref s2.heap.objs.size) rfl (fun s7 I7 ⟨a,sb,ha⟩=>?_) hf)
    have aC:a ≠ HH.objs.size:=by
     rcases ha with rfl | ha
     ·exact lC
     ·exact cC _ _ ha
    refine ⟨m5,hn5.sameBut sb (Ne.symm aC),fun h' hs'=>⟨_,H4,?_,qn⟩⟩
    exact I7.turned (t':=s7.toks) (it:=HH.objs.size) (fun b o hb e=>(hs'.2 b hb).trans e) I5.free (Ne.symm lC) (.inr (Nat.le_trans I2.sz fC)) cC fun p hp z=>by
     have e:=(I2.pin p hp).1
     exact absurd (Nat.lt_of_lt_of_le (Heap.lt_size e) fC) (by rw [z]; exact Nat.lt_irrefl _)
   ·refine wpAny_mono (T.item (compCx X scope cl N s2 H2 HH.objs.size fp) rfl rfl rfl hc i [] s4 σ4 H4 (fun _ _=>False) I4 (stat fr4) st4 go) (fun r s5 ⟨u,hr,h5⟩=>?_) fun _ _ z=>z.elim
    subst hr
    refine wpAny_mono h5 (fun _ s6 ⟨x,H6,I6,r6,y6,st6,fr6⟩=>?_) fun _ _ z=>z.elim
    have I6':=I6.pinned (stat fr6) (T.obj _ _ st6)
    refine wpAny_mono (hg _ s6 σ4 H6 x u _ I6' r6 (step x H6 y6)) (fun _ s7 ⟨σ7,H7,I7,q7⟩=>?_) fun _ _ z=>z.elim
    refine wpAny_mono (ht _ s7 σ7 H7 _ I7 q7) (fun ok s8 ⟨H8,I8,q8⟩=>?_) fun _ _ z=>z.elim
    have again:∀ {s9:Shared} {σ9:St} {H9:Hp} ,Inv (compCx X scope cl N s2 H2 HH.objs.size fp) ([] ++ pinsAt fp s6.heap) σ9 H9 s9->(∃ m',m' < n/\W (i + 1) m' σ9 H9)->∃ m,m < n/\∃ i σ' H',Inv (compCx X scope cl N s2 H2 HH.objs.size fp) [] σ' H' s9/\tn i s9.heap/\(∀ b ∈ fp,H' b=none)/\W i m σ' H':=fun {s9 σ9 H9} I9 n9=>by
     obtain ⟨m',hm,w9⟩:=n9
     refine ⟨m',hm,i + 1,σ9,H9,I9.unpinned,T.keep _ _ _ st6 fun b hb o e=>(I9.pin (b,o) (List.mem_append_right _ (List.mem_append_right _ (mem_pinsAt hb e)))).1,fun b hb=>?_,w9⟩
     obtain ⟨o,e,d⟩:=T.obj _ _ st6 b hb
     exact (I9.pin (b,o) (List.mem_append_right _ (List.mem_append_right _ (mem_pinsAt hb e)))).2.1
    cases ok with
    | false=>
     rw [if_neg Bool.false_ne_true] at q8 ⊢
     exact again I8 q8
    | true=>
     rw [if_pos rfl] at q8 ⊢
     refine wpAny_mono (he _ s8 σ7 H8 _ I8 q8) (fun y s9 ⟨v,H9,I9,r9,acc,hacc,hsz,q9⟩=>?_) fun _ _ z=>z.elim
     refine wpAny_mono (mt_append (X:=compCx X scope cl N s2 H2 HH.objs.size fp) _ s9 σ7 H9 (.ref s2.heap.objs.size) [v] (.ref s2.heap.objs.size) [y] (fun _ H10=>∃ m',m' < n/\W (i + 1) m' σ7 H10) I9 rfl (.cons r9 .nil) ⟨_,acc,v,rfl,rfl,hacc,hsz,q9⟩) (fun _ s10 ⟨_,H10,I10,_,q10⟩=>?_) fun _ _ z=>z.elim
     exact again I10 q10
  ·have z:=(f2 b hb).1
   obtain ⟨o,e⟩:=hfo b hb
   rw [upd_ne (Nat.ne_of_lt (Heap.lt_size e))]
   exact z
 exact codeAny_compStart_list (loop _ rfl) (T.self _ 0 _ _ _ (T.keep _ _ _ st2 fun b hb o e=>old b o e) (loop _ rfl))
theorem Paired.at {α β:Type} {F:α->β->Prop}:∀ {l₁:List α} {l₂:List β},Paired F l₁ l₂->∀ {i:Nat} {a:α},l₁[i]? = some a->∃ b,l₂[i]? = some b/\F a b
 | _,_,.nil,i,a,h=>by simp at h
 | _,_,.cons r t,0,a,h=>by
  simp only [List.getElem?_cons_zero,Option.some.injEq] at h
  subst h
  exact ⟨_,rfl,r⟩
 | _,_,.cons r t,i + 1,a,h=>by
  simp only [List.getElem?_cons_succ] at h
  obtain ⟨b,h1,h2⟩:=Paired.at t h
  exact ⟨b,by simpa using h1,h2⟩
theorem rel_of_is {P:Program} {w:World} {k:Key} {u:Value} (h:(mixKind P w).is k u=true):RelV (kV k) u:=by
 rcases keyIs_shape (show keyIs k u=true from h) with ⟨i,t,rfl,rfl⟩ | ⟨x,t,rfl,rfl⟩
 ·exact ⟨t,rfl⟩
 ·exact ⟨t,rfl⟩
def Itd (a:Addr) (kvs:List (Key × V)) (o:Obj):It:=
 ⟨fun i H=>H a=some (.frz o (.dK kvs))/\i < kvs.length,fun i H x H'=>H'=H/\∃ k v,kvs[i]? = some (k,v)/\x=kV k,fun i H=>H a=some (.frz o (.dK kvs))/\kvs.length<=i⟩
theorem frz_at {X:Cx} {pins:List (Addr × Obj)} {σ:St} {H:Hp} {s:Shared} {a:Addr} {o:Obj} {kvs:List (Key × V)} {es:Array DictEntry} {ep:Nat} (I:Inv X pins σ H s) (e:H a=some (.frz o (.dK kvs))) (he:o.data=.dict es ep) :
  (a == sysModules)=false/\∃ vs,KV kvs vs/\s.heap.DictAt (mixKind X.prog X.w) a vs ep:=by
 obtain ⟨ho,z,hd,vs,rel,o',es',ep',h1,h2,h3,h4⟩:=(show ObjOk X.prog X.w H s.heap a (.frz o (.dK kvs)) from I.hok a _ e)
 rw [ho] at h1
 cases h1
 rw [he] at h3
 injection h3 with h5 h6
 subst h5 h6
 exact ⟨hd,vs,rel,o,es,ho,h2,he,h4⟩
theorem turn_dict {P:Program} {w:World} {K:PySem.W.Frag} {tg:Expr} (a it:Addr) {kvs:List (Key × V)} {o:Obj} {es:Array DictEntry} {ep:Nat} (he:o.data=.dict es ep) :
  Turn P w K tg (Itd a kvs o) [it] it (fun i h=>h.IsKeyIter it a i kvs.length ep) where
 mem:=by simp
 obj:=fun i h st b hb=>by
  have e:b=it:=by simpa using hb
  subst e
  obtain ⟨o,e,c,d⟩:=st
  exact ⟨o,e,fun v z=>by rw [d] at z; cases z⟩
 keep:=fun i h h' st k=>st.at fun o e=>k it (by simp) o e
 item:=by
  intro X hP hw hK hc i pins s σ H E I hf st hg
  subst hP hw hK
  obtain ⟨hq,hlt⟩:=hg
  obtain ⟨hd,vs,rel,da⟩:=frz_at I hq he
  have hx:kvs[i]? = some kvs[i]:=by simp [hlt]
  obtain ⟨⟨k,v⟩,hv,e1,e2⟩:=Paired.at rel hx
  have hl:kvs.length=vs.length:=rel.length
  obtain ⟨f0,f1,f2,f3,f4,f5⟩:=hf it (by simp)
  rw [hl] at st
  refine wpAny_pyNext_dict_item st da hv fun key h' hkey st' sb=>?_
  have I1:Inv X pins σ H { s with heap:=h' }:=I.turned (t':=s.toks) (fun b o hb e=>(sb.2 b hb).trans e) f0 f1 f3 f4 f5
  rw [<-hl] at st'
  obtain ⟨o',e,c,d⟩:=id st'
  refine ⟨key,rfl,go_of (s:={ s with heap:=h' }) e c d (by decide) ⟨kV k,H,I1,rel_of_is hkey,⟨rfl,k,kvs[i].2,?_,rfl⟩,st',fun b hb=>(hf b hb).1⟩⟩
  have e1':kvs[i].1=k:=e1
  rw [hx,<-e1']
 done:=by
  intro X hP hw hK hc i pins s σ H E I hf st hg
  subst hP hw hK
  obtain ⟨hq,hle⟩:=hg
  obtain ⟨hd,vs,rel,da⟩:=frz_at I hq he
  have hl:kvs.length=vs.length:=rel.length
  obtain ⟨f0,f1,f2,f3,f4,f5⟩:=hf it (by simp)
  rw [hl] at st
  exact wpAny_pyNext_dict_end (I.ok.hd hc) st da (by simp; (first|lia|omega)) fun h' eb=>⟨rfl,I.turned (t':=s.toks) (fun b o hb e=>eb b o hb e) f0 f1 f3 f4 f5⟩
 self:=fun _ _ _ _ _ st h=>wpAny_pyIter_keyiter st h
def Frozen (H:Hp) (a:Addr) (kvs:List (Key × V)) (o:Obj) (H':Hp):Prop:=(H a=some (.dK kvs)/\H'=upd H a (.frz o (.dK kvs)))\/(H a=some (.frz o (.dK kvs))/\H'=H)
theorem Frozen.at {H H':Hp} {a:Addr} {kvs:List (Key × V)} {o:Obj} (f:Frozen H a kvs o H'):H' a=some (.frz o (.dK kvs)):=by
 rcases f with ⟨_,rfl⟩ | ⟨e,rfl⟩
 ·exact upd_same
 ·exact e
theorem Frozen.ne {H H':Hp} {a b:Addr} {kvs:List (Key × V)} {o:Obj} (f:Frozen H a kvs o H') (h:b ≠ a):H' b=H b:=by
 rcases f with ⟨_,rfl⟩ | ⟨e,rfl⟩
 ·exact upd_ne h
 ·rfl
theorem Inv.freeze {X:Cx} {pins:List (Addr × Obj)} {σ:St} {H:Hp} {s:Shared} {a:Addr} {kvs:List (Key × V)} (I:Inv X pins σ H s) (e:Rd H a (.dK kvs)) :
  ∃ o es ep H',o.data=.dict es ep/\Frozen H a kvs o H'/\Inv X pins σ H' s:=by
 rcases e with e | ⟨o,e⟩
 ·obtain ⟨z,hd,vs,rel,o,es,ep,h1,h2,h3,h4⟩:=(show ObjOk X.prog X.w H s.heap a (.dK kvs) from I.hok a _ e)
  refine ⟨o,es,ep,upd H a (.frz o (.dK kvs)),h3,.inl ⟨e,rfl⟩,?_⟩
  exact I.write (x:=a) (e:=a) (h':=s.heap) (t':=s.toks) (by rw [e]; exact True.intro) (.inl rfl) (fun b u _ q=>q) ⟨o,h1⟩ ⟨h1,z,hd,vs,rel,o,es,ep,h1,h2,h3,h4⟩
 ·obtain ⟨ho,z,hd,vs,rel,o',es,ep,h1,h2,h3,h4⟩:=(show ObjOk X.prog X.w H s.heap a (.frz o (.dK kvs)) from I.hok a _ e)
  rw [ho] at h1
  cases h1
  exact ⟨o,es,ep,H,h3,.inr ⟨e,rfl⟩,I⟩
def iDict (tl:TE):TI:=fun σ H R=>tl σ H fun x H1=>∃ a kvs,x=.ref a/\Rd H1 a (.dK kvs)/\∀ o H2,Frozen H1 a kvs o H2->R (Itd a kvs o) H2
theorem pi_dict {X:Cx} {tg l:Expr} {tl:TE} (hl:PE X l tl):PI X tg l (iDict tl):=by
 intro pins s σ H R I h
 refine thn (hl pins s σ H _ I h) fun v s1 ⟨x,H1,I1,r1,q1⟩=>?_
 obtain ⟨a,kvs,e,hr,q⟩:=q1
 subst e
 cases r1
 obtain ⟨o,es,ep,H2,he,fz,I2⟩:=I1.freeze hr
 obtain ⟨hd,vs,rel,da⟩:=frz_at I2 fz.at he
 refine wpAny_pyIter_dict hd da ?_
 refine ⟨s1.heap.objs.size,[s1.heap.objs.size],_,_,H2,rfl,I2.kept (t':=s1.toks) fun b o e=>Heap.get?_push_of_some _ e,turn_dict a _ he,⟨_,Heap.get?_push_size _ rfl,rfl,?_⟩,fun b hb=>?_,q o H2 fz⟩
 ·rw [rel.length]; rfl
 ·have e:b=s1.heap.objs.size:=by simpa using hb
  subst e
  exact I2.fpOk (Nat.le_refl _) (I2.hok.fresh (Nat.le_refl _))
theorem for_dict {a:Addr} {kvs:List (Key × V)} {o:Obj} {g:TG} {tb:TS} {D:Ends} {σ:St} {H:Hp} (Pv:Nat->St->Hp->Prop) (h0:Pv 0 σ H) (hl:∀ i σ H,i<=kvs.length->Pv i σ H->H a=some (.frz o (.dK kvs)))
  (hs:∀ i k v σ H,kvs[i]? = some (k,v)->Pv i σ H->g (kV k) σ H fun σ2 H2=>tb { D with nx:=Pv (i + 1),ct:=Pv (i + 1),bk:=D.nx } σ2 H2) (hd:∀ σ H,Pv kvs.length σ H->D.nx σ H) :
  ∃ W:Nat->Nat->St->Hp->Prop,(∃ m,W 0 m σ H)/\∀ i m σ H,W i m σ H ->
   ((Itd a kvs o).stop i H/\D.nx σ H)\/((Itd a kvs o).go i H/\∃ N:St->Hp->Prop,(∀ σ' H',N σ' H'->∃ m',m' < m/\W (i + 1) m' σ' H')/\∀ x H',(Itd a kvs o).yld i H x H'->g x σ H' fun σ2 H2=>tb { D with nx:=N,ct:=N,bk:=D.nx } σ2 H2):=by
 refine ⟨fun i m σ H=>m=kvs.length - i/\i<=kvs.length/\Pv i σ H,⟨kvs.length,by simp,Nat.zero_le _,h0⟩,?_⟩
 rintro i m σ H ⟨rfl,hi,p⟩
 have q:=hl i σ H hi p
 by_cases hlt:i < kvs.length
 ·refine .inr ⟨⟨q,hlt⟩,Pv (i + 1),fun σ' H' p'=>⟨kvs.length - (i + 1),by (first|lia|omega),rfl,hlt,p'⟩,fun x H' y=>?_⟩
  obtain ⟨e,k,v,e1,e2⟩:=y
  subst e e2
  exact hs i k v σ _ e1 p
 ·have e:i=kvs.length:=by (first|lia|omega)
  subst e
  exact .inl ⟨⟨q,Nat.le_refl _⟩,hd σ H p⟩
section
variable {prog:Program} {w:World} {A:Around} {E:Value->Shared->Prop} {s:Shared}
end
theorem lt_irr (a:List Nat):¬ a < a:=List.lt_irrefl a
section
variable {X:Cx} {pins:List (Addr × Obj)} {σ σ':St} {H H':Hp} {s2 s':Shared} {scope:Scope} {cl:List (Str × Addr)} {N:List Str} {fp:List Addr} {C D:Addr} {h₁ h':Heap} {t':Nat}
theorem comp_startG {ob:HO} (I:Inv X pins σ H s2) (hf:∀ b ∈ fp,FpOk X pins H b) (hfo:∀ b ∈ fp,∃ o,s2.heap.get? b=some o) (co:CompOk X scope cl) (hσ:Carry X cl scope N σ σ')
  (k:∀ b o,s2.heap.get? b=some o->h₁.get? b=some o) (hD:s2.heap.objs.size<=D) (hC:s2.heap.objs.size<=C) (hDC:C ≠ D)
  (newO:ObjOk X.prog X.w (upd H D ob) h₁ D ob) {m:Str->Option Value} (hn:h₁.Ns C m) :
  Inv (compCx X scope cl N s2 H C fp) [] σ' (upd H D ob) { s2 with heap:=h₁,toks:=t' }:=by
 have fD:H D=none:=I.hok.fresh hD
 have fC:H C=none:=I.hok.fresh hC
 have lts:∀ b ∈ fp,b < s2.heap.objs.size:=fun b hb=>let ⟨_,e⟩:=hfo b hb; Heap.lt_size e
 have cells_lt:∀ x c,cl.lookup x=some c->c < s2.heap.objs.size:=fun x c e=>by
  obtain ⟨v,q⟩:=I.cell x c (co.sub x c e)
  exact q.lt
 have ok:Cx.Ok (compCx X scope cl N s2 H C fp):=by
  refine ⟨I.ok.mod,?_,I.ok.glob,I.ok.blt,hC,?_,?_,?_,I.ok.hd,I.ok.frames,.inl rfl,?_,I.bs,Nat.le_trans I.ok.bsz I.sz,?_,?_,I.stack,I.stkFree⟩
  ·exact co.kind
  ·exact fun x y c e1 e2=>I.ok.inj x y c (co.sub x c e1) (co.sub y c e2)
  ·exact fun x h=>co.has x h
  ·exact fun x c h _=>by cases h
  ·intro b hb
   refine ⟨fun e=>?_,fun x c e=>(hf b hb).2.2.2.2.1 x c (co.sub x c e)⟩
   have z:=lts b hb
   exact absurd (Nat.lt_of_lt_of_le z hC) (by rw [show b=C from e]; exact Nat.lt_irrefl _)
  ·intro b o e hb
   have hb':b ∈ fp:=hb
   rcases (hf b hb').2.2.2.1 with z | z
   ·exact I.ok.noex b o e z
   ·exact absurd (Nat.lt_of_lt_of_le (Heap.lt_size e) (Nat.le_trans I.ok.bsz z)) (Nat.lt_irrefl _)
  ·intro b hb hz
   have hb':b ∈ fp:=hb
   obtain ⟨_,f1,f2,_⟩:=hf b hb'
   rcases List.mem_cons.mp (I.stkSub b hz) with e | e
   ·exact f1 e
   ·exact f2 e
 refine ⟨ok,rfl,I.bare,Un.laid k hD fD,?_,?_,?_,?_,?_,I.hok.laid k hD newO,hσ.1⟩
 ·refine ⟨m,hn,fun i x v e1 e2 _=>?_⟩
  obtain ⟨⟨j,j1,j2⟩,kk,kr⟩:=hσ.2 i x v e1 e2
  obtain ⟨mo,_,hl⟩:=I.loc
  obtain ⟨u,r,l⟩:=hl j x v j1 j2 (by
   rcases kk with z | z
   ·exact .inr (.inl z)
   ·exact .inr (.inr z))
  refine ⟨u,r,.inr ⟨kr,?_⟩⟩
  obtain ⟨c,hc⟩:=co.has x kr
  rcases l with ⟨z,_⟩ | ⟨_,c',hc',hcell⟩
  ·rcases kk with q | q
   ·rw [z] at q; cases q
   ·rw [z] at q; cases q
  ·have e3:=co.sub x c hc
   rw [hc'] at e3
   have e4:c'=c:=Option.some.inj e3
   subst e4
   obtain ⟨o,ho,hd⟩:=hcell
   exact ⟨c',hc,o,k _ o ho,hd⟩
 ·intro x c e
  obtain ⟨v,o,ho,hd⟩:=I.cell x c (co.sub x c e)
  exact ⟨v,o,k _ o ho,hd⟩
 ·show upd H D ob C=none
  rw [upd_ne hDC]
  exact fC
 ·intro x c e
  rw [upd_ne (Nat.ne_of_lt (Nat.lt_of_lt_of_le (cells_lt x c e) hD))]
  exact I.freeC x c (co.sub x c e)
 ·intro p hp
  cases hp
end
section
variable {prog:Program} {w:World} {A:Around} {R:Result->Shared->Prop} {s:Shared}
theorem codeAny_compLoop_anyD {kx vx target iter:Expr} {ifs:List Expr} {scope:Scope} {pos:Pos} {it:Value} {D:Addr} {env:Env} (I:Nat->Shared->Prop)
  (turn:∀ n s,I n s->wpAny (model prog w) A (pyNext it) (fun r s₁=>match r with
   | none=>R (.ok .next) s₁
   | some v=>wpAny (model prog w) A (letOwnedTupleGo target it v) (fun _ s₁'=>wpAny (model prog w) A (assign target env v) (fun _ s₂=>
     wpAny (model prog w) A (forIn ifs true fun c r=>if r=true then do let ok <- isTrue c env (eval c env); pure (ForInStep.yield ok) else pure (ForInStep.yield r)) (fun ok s₃=>
      if ok=true then wpAny (model prog w) A (eval kx env) (fun kv s₄=>wpAny (model prog w) A (eval vx env) (fun vv s₅=>
       wpAny (model prog w) A (dictSet D kv vv) (fun _ s₆=>∃ m,m < n/\I m s₆) (notedBy (model prog w) A env fun e s'=>R (.error e) s') s₅) (notedBy (model prog w) A env fun e s'=>R (.error e) s') s₄) (notedBy (model prog w) A env fun e s'=>R (.error e) s') s₃
      else ∃ m,m < n/\I m s₃) (notedBy (model prog w) A env fun e s'=>R (.error e) s') s₂) (notedBy (model prog w) A env fun e s'=>R (.error e) s') s₁') (notedBy (model prog w) A env fun e s'=>R (.error e) s') s₁) (notedBy (model prog w) A env fun e s'=>R (.error e) s') s)
  (n:Nat) (h:I n s) :
  codeAny (model prog w) A (.compLoop (.DictComp kx vx [⟨target,iter,ifs,0⟩] scope pos) 0 it (.ref D) env) R s:=by
 refine codeAny_loop rfl I (fun n s hI=>?_) n h
 show wpAny _ A ((compTurn (.DictComp kx vx [⟨target,iter,ifs,0⟩] scope pos) 0 it (.ref D) env).onRaise (fun x=>do noteFrame x env; theTreesLotGoes x)) _ _ s
 refine wpAny_noted ?_
 rw [compTurn_dict]
 refine wpAny_bind (wpAny_standAt (wpAny_bind (wpAny_mono (turn n s hI) (fun r s₁ h₁=>?_) fun _ _ h'=>h')))
 cases r with
 | none=>exact wpAny_pure h₁
 | some v=>
  refine wpAny_bind (wpAny_mono h₁ (fun _ s₁' h₁'=>?_) fun _ _ h'=>h')
  refine wpAny_bind (wpAny_mono h₁' (fun _ s₂ h₂=>wpAny_bind (wpAny_mono h₂ (fun ok s₃ h₃=>?_) fun _ _ h'=>h')) fun _ _ h'=>h')
  cases ok with
  | false=>exact wpAny_pure ⟨rfl,h₃⟩
  | true=>
   exact wpAny_bind (wpAny_bind (wpAny_mono h₃ (fun kv s₄ h₄=>wpAny_bind (wpAny_holding (wpAny_mono h₄ (fun vv s₅ h₅=>wpAny_bind (wpAny_standAt (wpAny_holding (wpAny_mono h₅ (fun _ s₆ h₆=>wpAny_pure ⟨rfl,h₆⟩) fun _ _ h'=>h')))) fun _ _ h'=>h'))) fun _ _ h'=>h'))
end
theorem d_dictSet {X:Cx} {pins:List (Addr × Obj)} {σ:St} {H:Hp} {s:Shared} {a:Addr} {k:Key} {v:V} {u r:Value} {kvs:List (Key × V)} {A:Around} {E:Value->Shared->Prop} {Q:Unit->Shared->Prop} (I:Inv X pins σ H s) (e:H a=some (.dK kvs)) (l:kvs.length < sizeLine) (ry:RelV (kV k) u) (rv:RelV v r)
  (h:∀ s',Inv X pins σ (upd H a (.dK (putK kvs k v))) s'->Q () s'):wpAny (model X.prog X.w) A (dictSet a u r) Q E s:=by
 obtain ⟨z,hd,vs,rel,dd⟩:=dk_of I.hok e
 have hz:vs.length<=sizeLine:=by rw [<-rel.length]; exact z
 have hl:(putK kvs k v).length<=sizeLine:=by have:=length_putK kvs k v; (first|lia|omega)
 refine wpAny_dictSet_pairs (hsz:=hz) (kV_is ry) dd fun h' dd' hs=>h _ ?_
 have he:∃ q,h'.get? a=some q:=let ⟨q,_,_,hq,_⟩:=dd'; ⟨q,hq⟩
 exact d_write I (by rw [e]; exact True.intro) hs he (dk_new hl hd (rel.put k rv) dd')
def tDComp (wi:TI) (g:TG) (tt:TT) (tk tv:TE) (σ0:St->St):TE:=fun σ H Q=>wi σ H fun J H1=>∀ D,H1 D=none->∃ W:Nat->Nat->St->Hp->Prop,(∃ m,W 0 m (σ0 σ) (upd H1 D (.dK []))) /\
 ∀ i m σ' H',W i m σ' H'->(J.stop i H'/\Q (.ref D) H')\/(J.go i H'/\∀ x H2,J.yld i H' x H2->g x σ' H2 fun σ2 H3=>tt σ2 H3 fun b H4=>
  if b=true then tk σ2 H4 (fun y H5=>tv σ2 H5 fun v H6=>∃ kvs k,y=kV k/\H6 D=some (.dK kvs)/\kvs.length < sizeLine/\∃ m',m' < m/\W (i + 1) m' σ2 (upd H6 D (.dK (putK kvs k v)))) else ∃ m',m' < m/\W (i + 1) m' σ2 H4)
theorem pe_dcomp {X:Cx} {tg iter kx vx:Expr} {ifs:List Expr} {scope:Scope} {cl:List (Str × Addr)} {N:List Str} {pos:Pos} {wi:TI} {g:TG} {tt:TT} {tk tv:TE} {σ0:St->St} (hc:X.calm=true) (co:CompOk X scope cl)
  (hσ:∀ σ,σ.length=X.N.length->Carry X cl scope N σ (σ0 σ)) (hi:PI X tg iter wi)
  (hb:∀ s2 H C fp,PG (compCx X scope cl N s2 H C fp) tg g/\PTs (compCx X scope cl N s2 H C fp) ifs tt/\PE (compCx X scope cl N s2 H C fp) kx tk/\PE (compCx X scope cl N s2 H C fp) vx tv)
  (hs:∀ x,foldedSetIterable iter X.env x=pure x:=by intro _; rfl):PE X (.DictComp kx vx [⟨tg,iter,ifs,0⟩] scope pos) (tDComp wi g tt tk tv σ0):=by
 intro pins s σ H Q I h
 rw [arm_eval_DictComp]
 refine wpAny_comprehension_free (use:=none) rfl hs co.clos co.kind co.names (wpAny_mono (hi pins s σ H _ I h) (fun xv s1 h1=>wpAny_mono h1 (fun itv s2 h2=>?_) fun _ _ e=>e) fun _ _ e=>e)
 obtain ⟨it,fp,tn,J,H2,rfl,I2,T,st2,f2,hW⟩:=h2
 refine wpAny_newObj_type (wpAny_newFunctionEnv co.cell (by intro y hy; cases hy) (fun h₁ hns₁ hsb₁=>?_) co.kind)
 dsimp only at hns₁ hsb₁ ⊢
 generalize hH2:s2.heap.push { cls:=.type "dict",dict:=none,data:=.dict #[] } = HH at hns₁ hsb₁ ⊢
 have hCsz:HH.objs.size=s2.heap.objs.size + 1:=by rw [<-hH2,Heap.size_push]
 have old:∀ b o,s2.heap.get? b=some o->h₁.get? b=some o:=fun b o e=>
  hsb₁.extBut b o (Nat.ne_of_lt (by rw [hCsz]; exact Nat.lt_succ_of_lt (Heap.lt_size e))) (Heap.get?_push_of_some _ (hH2 ▸ Heap.get?_push_of_some _ e))
 have newD:ObjOk X.prog X.w (upd H2 s2.heap.objs.size (.dK [])) h₁ s2.heap.objs.size (.dK []):=
  let ⟨z,hd,vs,rel,o,es,ep,ho,r⟩:=dk_empty (P:=X.prog) (w:=X.w) (H:=upd H2 s2.heap.objs.size (.dK [])) s2.heap I2.big
  ⟨z,hd,vs,rel,o,es,ep,hsb₁.extBut _ _ (Nat.ne_of_lt (by rw [hCsz]; exact Nat.lt_succ_self _)) (Heap.get?_push_of_some _ (hH2 ▸ ho)),r⟩
 obtain ⟨W,⟨m0,w0⟩,turn⟩:=hW s2.heap.objs.size I2.fresh
 have hfo:∀ b ∈ fp,∃ o,s2.heap.get? b=some o:=fun b hb=>let ⟨o,e,_⟩:=T.obj _ _ st2 b hb; ⟨o,e⟩
 have I3:Inv (compCx X scope cl N s2 H2 HH.objs.size fp) [] (σ0 σ) (upd H2 s2.heap.objs.size (.dK [])) { s2 with heap:=h₁,toks:=s2.toks + ([]:List (Str × Value)).length }:=
  comp_startG I2 f2 hfo co (hσ σ I.len) old (Nat.le_refl _) (by rw [hCsz]; exact Nat.le_succ _) (Nat.ne_of_gt (by rw [hCsz]; exact Nat.lt_succ_self _)) newD hns₁
 have fC:s2.heap.objs.size<=HH.objs.size:=by rw [hCsz]; exact Nat.le_succ _
 obtain ⟨hg,ht,hk,hv⟩:=hb s2 H2 HH.objs.size fp
 have loop:∀ s₃:Shared,s₃ = { s2 with heap:=h₁,toks:=s2.toks + ([]:List (Str × Value)).length } ->
   codeAny (model X.prog X.w) X.A (.compLoop (.DictComp kx vx [⟨tg,iter,ifs,0⟩] scope pos) 0 (.ref it) (.ref s2.heap.objs.size) (compEnvC scope cl HH.objs.size X.env))
    (compPost (model X.prog X.w) X.A X.xe none (EP X pins σ Q) (.ref s2.heap.objs.size) HH.objs.size) s₃:=by
  rintro s₃ rfl
  have stat:∀ {H':Hp} ,(∀ b ∈ fp,H' b=none)->∀ b ∈ fp,FpOk (compCx X scope cl N s2 H2 HH.objs.size fp) [] H' b:=fun hn b hb=>by
   refine ⟨hn b hb,?_,?_,.inl hb,?_,fun p hp=>by cases hp⟩
   ·obtain ⟨o,e⟩:=hfo b hb
    exact Nat.ne_of_lt (show b < HH.objs.size by rw [hCsz]; exact Nat.lt_succ_of_lt (Heap.lt_size e))
   ·intro hz
    obtain ⟨_,q1,q2,_⟩:=f2 b hb
    rcases List.mem_cons.mp (I2.stkSub b hz) with e | e
    ·exact q1 e
    ·exact q2 e
   ·exact fun x c e=>(f2 b hb).2.2.2.2.1 x c (co.sub x c e)
  refine codeAny_compLoop_anyD (fun n s'=>∃ i σ' H',Inv (compCx X scope cl N s2 H2 HH.objs.size fp) [] σ' H' s'/\tn i s'.heap/\(∀ b ∈ fp,H' b=none)/\W i n σ' H') ?_ m0
   ⟨0,σ0 σ,_,I3,T.keep _ _ _ st2 fun b hb o e=>old b o e,fun b hb=>?_,w0⟩
  ·rintro n s4 ⟨i,σ4,H4,I4,st4,fr4,w4⟩
   rcases turn i n σ4 H4 w4 with ⟨stop,qn⟩ | ⟨go,step⟩
   ·refine wpAny_mono (T.done (compCx X scope cl N s2 H2 HH.objs.size fp) rfl rfl rfl hc i [] s4 σ4 H4 (fun _ _=>False) I4 (stat fr4) st4 stop) (fun r s5 ⟨hr,I5⟩=>?_) fun _ _ z=>z.elim
    subst hr
    obtain ⟨m5,hn5,_⟩:=id I5.loc
    exact ⟨m5,hn5,fun h' hs'=>⟨.ref _,H4,comp_end I2 f2 fC I5 hs',rfl,qn⟩⟩
   ·refine wpAny_mono (T.item (compCx X scope cl N s2 H2 HH.objs.size fp) rfl rfl rfl hc i [] s4 σ4 H4 (fun _ _=>False) I4 (stat fr4) st4 go) (fun r s5 ⟨u,hr,h5⟩=>?_) fun _ _ z=>z.elim
    subst hr
    refine wpAny_mono h5 (fun _ s6 ⟨x,H6,I6,r6,y6,st6,fr6⟩=>?_) fun _ _ z=>z.elim
    have I6':=I6.pinned (stat fr6) (T.obj _ _ st6)
    refine wpAny_mono (hg _ s6 σ4 H6 x u _ I6' r6 (step x H6 y6)) (fun _ s7 ⟨σ7,H7,I7,q7⟩=>?_) fun _ _ z=>z.elim
    refine wpAny_mono (ht _ s7 σ7 H7 _ I7 q7) (fun ok s8 ⟨H8,I8,q8⟩=>?_) fun _ _ z=>z.elim
    have again:∀ {s9:Shared} {σ9:St} {H9:Hp} ,Inv (compCx X scope cl N s2 H2 HH.objs.size fp) ([] ++ pinsAt fp s6.heap) σ9 H9 s9->(∃ m',m' < n/\W (i + 1) m' σ9 H9)->∃ m,m < n/\∃ i σ' H',Inv (compCx X scope cl N s2 H2 HH.objs.size fp) [] σ' H' s9/\tn i s9.heap/\(∀ b ∈ fp,H' b=none)/\W i m σ' H':=fun {s9 σ9 H9} I9 n9=>by
     obtain ⟨m',hm,w9⟩:=n9
     refine ⟨m',hm,i + 1,σ9,H9,I9.unpinned,T.keep _ _ _ st6 fun b hb o e=>(I9.pin (b,o) (List.mem_append_right _ (List.mem_append_right _ (mem_pinsAt hb e)))).1,fun b hb=>?_,w9⟩
     obtain ⟨o,e,d⟩:=T.obj _ _ st6 b hb
     exact (I9.pin (b,o) (List.mem_append_right _ (List.mem_append_right _ (mem_pinsAt hb e)))).2.1
    cases ok with
    | false=>
     rw [if_neg Bool.false_ne_true] at q8 ⊢
     exact again I8 q8
    | true=>
     rw [if_pos rfl] at q8 ⊢
     refine wpAny_mono (hk _ s8 σ7 H8 _ I8 q8) (fun yk s9 ⟨k,H9,I9,r9,q9⟩=>?_) fun _ _ z=>z.elim
     refine wpAny_mono (hv _ s9 σ7 H9 _ I9 q9) (fun yv s10 ⟨v,H10,I10,r10,kvs,key,ek,hacc,hsz,q10⟩=>?_) fun _ _ z=>z.elim
     subst ek
     exact d_dictSet (X:=compCx X scope cl N s2 H2 HH.objs.size fp) I10 hacc hsz r9 r10 fun s11 I11=>again I11 q10
  ·have z:=(f2 b hb).1
   obtain ⟨o,e⟩:=hfo b hb
   rw [upd_ne (Nat.ne_of_lt (Heap.lt_size e))]
   exact z
 exact codeAny_compStart_dict (loop _ rfl) (T.self _ 0 _ _ _ (T.keep _ _ _ st2 fun b hb o e=>old b o e) (loop _ rfl))
theorem ps_dcomp {X:Cx} {ix:Nat} {x:Str} {px spos:Pos} {tg iter kx vx:Expr} {ifs:List Expr} {scope:Scope} {cl:List (Str × Addr)} {N:List Str} {pos:Pos} {wi:TI} {g:TG} {tt:TT} {tk tv:TE} {σ0:St->St} (hN:X.N.Nodup) (hix:X.N[ix]? = some x) (hlx:Loc X.env.scope x) (hc:X.calm=true) (co:CompOk X scope cl)
  (hσ:∀ σ,σ.length=X.N.length->Carry X cl scope N σ (σ0 σ)) (hi:PI X tg iter wi)
  (hb:∀ s2 H C fp,PG (compCx X scope cl N s2 H C fp) tg g/\PTs (compCx X scope cl N s2 H C fp) ifs tt/\PE (compCx X scope cl N s2 H C fp) kx tk/\PE (compCx X scope cl N s2 H C fp) vx tv)
  (hsw:swapsWith (.DictComp kx vx [⟨tg,iter,ifs,0⟩] scope pos) (some (.Name x px)) spos.line X.env=pure true:=by rfl)
  (hs:∀ x,foldedSetIterable iter X.env x=pure x:=by intro _; rfl) (hf:X.fn x=true\/X.env.scope.names.lookup x=some .local:=by first | exact .inl rfl | exact .inr rfl | assumption) :
  PS X (.Assign [.Name x px] (.DictComp kx vx [⟨tg,iter,ifs,0⟩] scope pos) spos) (tAsg (tDComp wi g tt tk tv σ0) (gName ix)):=by
 intro pins s σ H DD I h
 rw [exec_Assign_Name_used _ _ _ _ hsw]
 refine wpAny_bind (wpAny_standAt (wpAny_bind ?_))
 show wpAny _ X.A (do let _ <- comprehension (.DictComp kx vx [⟨tg,iter,ifs,0⟩] scope pos) scope X.env _ newDict false (eval iter X.env) (some (assign (.Name x px) X.env))) _ _ s
 refine wpAny_bind (wpAny_mono (wpAny_comprehension_free (use:=some (assign (.Name x px) X.env)) (Q:=fun _ s'=>SP X pins DD .next s') rfl hs co.clos co.kind co.names
  (wpAny_mono (hi pins s σ H _ I h) (fun xv s1 h1=>wpAny_mono h1 (fun itv s2 h2=>?_) fun _ _ e=>e) fun _ _ e=>e)) (fun _ s' hq=>wpAny_pure (wpAny_pure hq)) fun _ _ e=>e)
 obtain ⟨it,fp,tn,J,H2,rfl,I2,T,st2,f2,hW⟩:=h2
 refine wpAny_newObj_type (wpAny_newFunctionEnv co.cell (by intro y hy; cases hy) (fun h₁ hns₁ hsb₁=>?_) co.kind)
 dsimp only at hns₁ hsb₁ ⊢
 generalize hH2:s2.heap.push { cls:=.type "dict",dict:=none,data:=.dict #[] } = HH at hns₁ hsb₁ ⊢
 have hCsz:HH.objs.size=s2.heap.objs.size + 1:=by rw [<-hH2,Heap.size_push]
 have old:∀ b o,s2.heap.get? b=some o->h₁.get? b=some o:=fun b o e=>
  hsb₁.extBut b o (Nat.ne_of_lt (by rw [hCsz]; exact Nat.lt_succ_of_lt (Heap.lt_size e))) (Heap.get?_push_of_some _ (hH2 ▸ Heap.get?_push_of_some _ e))
 have newD:ObjOk X.prog X.w (upd H2 s2.heap.objs.size (.dK [])) h₁ s2.heap.objs.size (.dK []):=
  let ⟨z,hd,vs,rel,o,es,ep,ho,r⟩:=dk_empty (P:=X.prog) (w:=X.w) (H:=upd H2 s2.heap.objs.size (.dK [])) s2.heap I2.big
  ⟨z,hd,vs,rel,o,es,ep,hsb₁.extBut _ _ (Nat.ne_of_lt (by rw [hCsz]; exact Nat.lt_succ_self _)) (Heap.get?_push_of_some _ (hH2 ▸ ho)),r⟩
 obtain ⟨W,⟨m0,w0⟩,turn⟩:=hW s2.heap.objs.size I2.fresh
 have hfo:∀ b ∈ fp,∃ o,s2.heap.get? b=some o:=fun b hb=>let ⟨o,e,_⟩:=T.obj _ _ st2 b hb; ⟨o,e⟩
 have I3:Inv (compCx X scope cl N s2 H2 HH.objs.size fp) [] (σ0 σ) (upd H2 s2.heap.objs.size (.dK [])) { s2 with heap:=h₁,toks:=s2.toks + ([]:List (Str × Value)).length }:=
  comp_startG I2 f2 hfo co (hσ σ I.len) old (Nat.le_refl _) (by rw [hCsz]; exact Nat.le_succ _) (Nat.ne_of_gt (by rw [hCsz]; exact Nat.lt_succ_self _)) newD hns₁
 have fC:s2.heap.objs.size<=HH.objs.size:=by rw [hCsz]; exact Nat.le_succ _
 obtain ⟨hg,ht,hk,hv⟩:=hb s2 H2 HH.objs.size fp
 have loop:∀ s₃:Shared,s₃ = { s2 with heap:=h₁,toks:=s2.toks + ([]:List (Str × Value)).length } ->
   codeAny (model X.prog X.w) X.A (.compLoop (.DictComp kx vx [⟨tg,iter,ifs,0⟩] scope pos) 0 (.ref it) (.ref s2.heap.objs.size) (compEnvC scope cl HH.objs.size X.env))
    (compPost (model X.prog X.w) X.A X.xe (some (assign (.Name x px) X.env)) (fun _ s'=>SP X pins DD .next s') (.ref s2.heap.objs.size) HH.objs.size) s₃:=by
  rintro s₃ rfl
  have stat:∀ {H':Hp} ,(∀ b ∈ fp,H' b=none)->∀ b ∈ fp,FpOk (compCx X scope cl N s2 H2 HH.objs.size fp) [] H' b:=fun hn b hb=>by
   refine ⟨hn b hb,?_,?_,.inl hb,?_,fun p hp=>by cases hp⟩
   ·obtain ⟨o,e⟩:=hfo b hb
    exact Nat.ne_of_lt (show b < HH.objs.size by rw [hCsz]; exact Nat.lt_succ_of_lt (Heap.lt_size e))
   ·intro hz
    obtain ⟨_,q1,q2,_⟩:=f2 b hb
    rcases List.mem_cons.mp (I2.stkSub b hz) with e | e
    ·exact q1 e
    ·exact q2 e
   ·exact fun x c e=>(f2 b hb).2.2.2.2.1 x c (co.sub x c e)
  refine codeAny_compLoop_anyD (fun n s'=>∃ i σ' H',Inv (compCx X scope cl N s2 H2 HH.objs.size fp) [] σ' H' s'/\tn i s'.heap/\(∀ b ∈ fp,H' b=none)/\W i n σ' H') ?_ m0
   ⟨0,σ0 σ,_,I3,T.keep _ _ _ st2 fun b hb o e=>old b o e,fun b hb=>?_,w0⟩
  ·rintro n s4 ⟨i,σ4,H4,I4,st4,fr4,w4⟩
   rcases turn i n σ4 H4 w4 with ⟨stop,qn⟩ | ⟨go,step⟩
   ·refine wpAny_mono (T.done (compCx X scope cl N s2 H2 HH.objs.size fp) rfl rfl rfl hc i [] s4 σ4 H4 (fun _ _=>False) I4 (stat fr4) st4 stop) (fun r s5 ⟨hr,I5⟩=>?_) fun _ _ z=>z.elim
    subst hr
    obtain ⟨m5,hn5,_⟩:=id I5.loc
    have I6:Inv X pins σ H4 s5:=comp_end (h':=s5.heap) I2 f2 fC I5 (Heap.SameBut.refl _ _)
    have cC:∀ y c,X.env.cells.lookup y=some c->c ≠ HH.objs.size:=fun y c e=>by
     obtain ⟨v,q⟩:=I2.cell y c e
     exact Nat.ne_of_lt (Nat.lt_of_lt_of_le q.lt fC)
    have lC:X.env.locals ≠ HH.objs.size:=Nat.ne_of_lt (Nat.lt_of_lt_of_le I2.lt fC)
    show wpAny _ X.A (assign (.Name x px) X.env (.ref s2.heap.objs.size)) _ X.xe s5
    refine wpAny_assign_Name (store_ok2 I6 hN hix hlx (v:=.ref s2.heap.objs.size) rfl (fun s7 I7 ⟨a,sb,ha⟩=>?_) hf)
    have aC:a ≠ HH.objs.size:=by
     rcases ha with rfl | ha
     ·exact lC
     ·exact cC _ _ ha
    refine ⟨m5,hn5.sameBut sb (Ne.symm aC),fun h' hs'=>⟨_,H4,?_,qn⟩⟩
    exact I7.turned (t':=s7.toks) (it:=HH.objs.size) (fun b o hb e=>(hs'.2 b hb).trans e) I5.free (Ne.symm lC) (.inr (Nat.le_trans I2.sz fC)) cC fun p hp z=>by
     have e:=(I2.pin p hp).1
     exact absurd (Nat.lt_of_lt_of_le (Heap.lt_size e) fC) (by rw [z]; exact Nat.lt_irrefl _)
   ·refine wpAny_mono (T.item (compCx X scope cl N s2 H2 HH.objs.size fp) rfl rfl rfl hc i [] s4 σ4 H4 (fun _ _=>False) I4 (stat fr4) st4 go) (fun r s5 ⟨u,hr,h5⟩=>?_) fun _ _ z=>z.elim
    subst hr
    refine wpAny_mono h5 (fun _ s6 ⟨x,H6,I6,r6,y6,st6,fr6⟩=>?_) fun _ _ z=>z.elim
    have I6':=I6.pinned (stat fr6) (T.obj _ _ st6)
    refine wpAny_mono (hg _ s6 σ4 H6 x u _ I6' r6 (step x H6 y6)) (fun _ s7 ⟨σ7,H7,I7,q7⟩=>?_) fun _ _ z=>z.elim
    refine wpAny_mono (ht _ s7 σ7 H7 _ I7 q7) (fun ok s8 ⟨H8,I8,q8⟩=>?_) fun _ _ z=>z.elim
    have again:∀ {s9:Shared} {σ9:St} {H9:Hp} ,Inv (compCx X scope cl N s2 H2 HH.objs.size fp) ([] ++ pinsAt fp s6.heap) σ9 H9 s9->(∃ m',m' < n/\W (i + 1) m' σ9 H9)->∃ m,m < n/\∃ i σ' H',Inv (compCx X scope cl N s2 H2 HH.objs.size fp) [] σ' H' s9/\tn i s9.heap/\(∀ b ∈ fp,H' b=none)/\W i m σ' H':=fun {s9 σ9 H9} I9 n9=>by
     obtain ⟨m',hm,w9⟩:=n9
     refine ⟨m',hm,i + 1,σ9,H9,I9.unpinned,T.keep _ _ _ st6 fun b hb o e=>(I9.pin (b,o) (List.mem_append_right _ (List.mem_append_right _ (mem_pinsAt hb e)))).1,fun b hb=>?_,w9⟩
     obtain ⟨o,e,d⟩:=T.obj _ _ st6 b hb
     exact (I9.pin (b,o) (List.mem_append_right _ (List.mem_append_right _ (mem_pinsAt hb e)))).2.1
    cases ok with
    | false=>
     rw [if_neg Bool.false_ne_true] at q8 ⊢
     exact again I8 q8
    | true=>
     rw [if_pos rfl] at q8 ⊢
     refine wpAny_mono (hk _ s8 σ7 H8 _ I8 q8) (fun yk s9 ⟨k,H9,I9,r9,q9⟩=>?_) fun _ _ z=>z.elim
     refine wpAny_mono (hv _ s9 σ7 H9 _ I9 q9) (fun yv s10 ⟨v,H10,I10,r10,kvs,key,ek,hacc,hsz,q10⟩=>?_) fun _ _ z=>z.elim
     subst ek
     exact d_dictSet (X:=compCx X scope cl N s2 H2 HH.objs.size fp) I10 hacc hsz r9 r10 fun s11 I11=>again I11 q10
  ·have z:=(f2 b hb).1
   obtain ⟨o,e⟩:=hfo b hb
   rw [upd_ne (Nat.ne_of_lt (Heap.lt_size e))]
   exact z
 exact codeAny_compStart_dict (loop _ rfl) (T.self _ 0 _ _ _ (T.keep _ _ _ st2 fun b hb o e=>old b o e) (loop _ rfl))
theorem risingS_cons (p x:Str) (r:List Str):risingS p (x :: r)=(!ltCps x.cps.toList p.cps.toList && risingS x r):=rfl
theorem rising_pw:∀ (p:Str) (l:List Str),risingS p l=true->(p :: l).Pairwise fun a b=>¬ b.cps.toList < a.cps.toList
 | p,[],_=>List.pairwise_singleton _ _
 | p,x :: r,h=>by
  rw [risingS_cons,Bool.and_eq_true,ltCps_eq] at h
  have h1:¬ x.cps.toList < p.cps.toList:=by simpa using h.1
  have h2:=rising_pw x r h.2
  refine List.pairwise_cons.mpr ⟨fun y hy=>?_,h2⟩
  rcases List.mem_cons.mp hy with rfl | hy
  ·exact h1
  ·have h3:=(List.pairwise_cons.mp h2).1 y hy
   have a:p.cps.toList<=x.cps.toList:=List.not_lt.mp h1
   have b:x.cps.toList<=y.cps.toList:=List.not_lt.mp h3
   exact List.not_lt.mpr (List.le_trans a b)
theorem sorted_pw {l:List Str} (h:sortedS l=true):l.Pairwise fun a b=>¬ b.cps.toList < a.cps.toList:=by
 cases l with
 | nil=>exact .nil
 | cons p l=>exact rising_pw p l h
theorem str_anti {a b:Str} (h1:¬ b.cps.toList < a.cps.toList) (h2:¬ a.cps.toList < b.cps.toList):a=b:=by
 have e:a.cps.toList=b.cps.toList:=List.le_antisymm (List.not_lt.mp h1) (List.not_lt.mp h2)
 cases a; cases b
 simp only [Str.mk.injEq]
 exact Array.toList_inj.mp e
theorem sorted_eq {l m:List Str} (hl:l.Pairwise fun a b=>¬ b.cps.toList < a.cps.toList) (hm:m.Pairwise fun a b=>¬ b.cps.toList < a.cps.toList) (p:l.Perm m):l=m:=
 List.Perm.eq_of_pairwise (fun a b _ _ h1 h2=>str_anti h1 h2) hl hm p
def Adj (ws:List Way) (x y:Str):Prop:=∃ u ∈ ws,(u.1=x/\u.2.1=y)\/(u.1=y/\u.2.1=x)
theorem Adj.symm {ws:List Way} {x y:Str} (h:Adj ws x y):Adj ws y x:=let ⟨u,hu,h⟩:=h; ⟨u,hu,h.symm⟩
theorem norm_ends (u:Way):(norm u).1=u.1/\(norm u).2.1=u.2.1\/(norm u).1=u.2.1/\(norm u).2.1=u.1:=by
 unfold norm minS maxS
 by_cases h:u.2.1.cps.toList < u.1.cps.toList
 ·have h':¬ u.1.cps.toList < u.2.1.cps.toList:=List.lt_asymm h
  rw [if_pos h,if_neg h']
  exact .inr ⟨rfl,rfl⟩
 ·rw [if_neg h]
  by_cases h':u.1.cps.toList < u.2.1.cps.toList
  ·rw [if_pos h']; exact .inl ⟨rfl,rfl⟩
  ·rw [if_neg h']
   have e:u.1=u.2.1:=str_anti h h'
   exact .inl ⟨rfl,e⟩
theorem adj_norm {ws ws':List Way} (p:ws'.Perm (ws.map norm)) (x y:Str):Adj ws' x y ↔ Adj ws x y:=by
 constructor
 ·rintro ⟨u,hu,h⟩
  obtain ⟨v,hv,rfl⟩:=List.mem_map.mp (p.mem_iff.mp hu)
  refine ⟨v,hv,?_⟩
  rcases norm_ends v with ⟨e1,e2⟩ | ⟨e1,e2⟩
  ·rw [e1,e2] at h; exact h
  ·rw [e1,e2] at h
   rcases h with ⟨a,b⟩ | ⟨a,b⟩
   ·exact .inr ⟨b,a⟩
   ·exact .inl ⟨b,a⟩
 ·rintro ⟨v,hv,h⟩
  refine ⟨norm v,p.mem_iff.mpr (List.mem_map.mpr ⟨v,hv,rfl⟩),?_⟩
  rcases norm_ends v with ⟨e1,e2⟩ | ⟨e1,e2⟩
  ·rw [e1,e2]; exact h
  ·rw [e1,e2]
   rcases h with ⟨a,b⟩ | ⟨a,b⟩
   ·exact .inr ⟨b,a⟩
   ·exact .inl ⟨b,a⟩
theorem ends_norm {xs:List Str} {ws ws':List Way} (p:ws'.Perm (ws.map norm)) (h:∀ u ∈ ws,u.1 ∈ xs/\u.2.1 ∈ xs):∀ u ∈ ws',u.1 ∈ xs/\u.2.1 ∈ xs:=fun u hu=>by
 obtain ⟨v,hv,rfl⟩:=List.mem_map.mp (p.mem_iff.mp hu)
 obtain ⟨a,b⟩:=h v hv
 rcases norm_ends v with ⟨e1,e2⟩ | ⟨e1,e2⟩ <;> rw [e1,e2]
 ·exact ⟨a,b⟩
 ·exact ⟨b,a⟩
def Joined (xs:List Str) (ws:List Way):Prop:=∀ j,0 < j->j < xs.length->∃ u ∈ ws,∃ i:Nat,i < j/\xs[i]? = some u.1/\xs[j]? = some u.2.1
theorem Joined.all {xs:List Str} {ws:List Way} (h:Joined xs ws) (S:Str->Prop) (cl:∀ x y,Adj ws x y->S x->S y) {r:Str} (hr:r ∈ xs) (sr:S r):∀ x ∈ xs,S x:=by
 have down:∀ n (i:Nat),i<=n->∀ x,xs[i]? = some x->S x->∀ x0,xs[0]? = some x0->S x0:=by
  intro n
  induction n with
  | zero=>
   intro i hi x e s x0 e0
   have:i=0:=by (first|lia|omega)
   subst this
   rw [e] at e0; cases e0; exact s
  | succ n ih=>
   intro i hi x e s x0 e0
   by_cases hz:i=0
   ·subst hz
    rw [e] at e0; cases e0; exact s
   ·obtain ⟨u,hu,k,hk,e1,e2⟩:=h i (by (first|lia|omega)) (List.getElem?_eq_some_iff.mp e).1
    rw [e] at e2; cases e2
    exact ih k (by (first|lia|omega)) u.1 e1 (cl _ _ ⟨u,hu,.inr ⟨rfl,rfl⟩⟩ s) x0 e0
 have up:∀ x0,xs[0]? = some x0->S x0->∀ n (i:Nat),i<=n->∀ x,xs[i]? = some x->S x:=by
  intro x0 e0 s0 n
  induction n with
  | zero=>
   intro i hi x e
   have:i=0:=by (first|lia|omega)
   subst this
   rw [e0] at e; cases e; exact s0
  | succ n ih=>
   intro i hi x e
   by_cases hz:i=0
   ·subst hz
    rw [e0] at e; cases e; exact s0
   ·obtain ⟨u,hu,k,hk,e1,e2⟩:=h i (by (first|lia|omega)) (List.getElem?_eq_some_iff.mp e).1
    rw [e] at e2; cases e2
    exact cl _ _ ⟨u,hu,.inl ⟨rfl,rfl⟩⟩ (ih k (by (first|lia|omega)) u.1 e1)
 intro x hx
 obtain ⟨i,hi,e⟩:=List.getElem_of_mem hr
 obtain ⟨j,hj,e'⟩:=List.getElem_of_mem hx
 have h0:xs[0]? = some xs[0]:=List.getElem?_eq_getElem (by (first|lia|omega))
 have s0:S xs[0]:=down i i (Nat.le_refl _) r (by rw [List.getElem?_eq_getElem hi,e]) sr _ h0
 exact up _ h0 s0 j j (Nat.le_refl _) x (by rw [List.getElem?_eq_getElem hj,e'])
section
variable {ws:List Way} {r:Str} {bs cs:List (Str × Option Str)}
theorem val_uniq {α β:Type} {l:List (α × β)} (h:(l.map (·.1)).Nodup) {x:α} {a b:β} (ha:(x,a) ∈ l) (hb:(x,b) ∈ l):a=b:=by
 induction l with
 | nil=>cases ha
 | cons p l ih=>
  rw [List.map_cons] at h
  obtain ⟨h1,h2⟩:=List.nodup_cons.mp h
  have key:∀ c,(x,c) ∈ l->p.1 ≠ x:=fun c hc z=>h1 (by rw [z]; exact List.mem_map.mpr ⟨(x,c),hc,rfl⟩)
  rcases List.mem_cons.mp ha with e | ha1
  ·rcases List.mem_cons.mp hb with e' | hb1
   ·rw [<-e] at e'; cases e'; rfl
   ·exact absurd (by rw [<-e]) (key b hb1)
  ·rcases List.mem_cons.mp hb with e' | hb1
   ·exact absurd (by rw [<-e']) (key a ha1)
   ·exact ih h2 ha1 hb1
end
section
variable {ws:List Way} {r:Str} {wk:List (Str × List Str)}
end
theorem way_dats {H2 H3:Hp} {vs:List V} {ws:List Way} (h:Dats H2 vs (ws.map wayD)) (ht:∀ b xs,H2 b=some (.tup xs)->H3 b=some (.tup xs)):Dats H3 vs (ws.map wayD):=by
 induction ws generalizing vs with
 | nil=>cases h; exact .nil
 | cons u ws ih=>
  cases h with
  | cons h1 r=>
   refine .cons ?_ (ih r)
   cases h1 with
   | tup ha hd=>
    refine .tup (ht _ _ ha) ?_
    cases hd with
    | cons h1 r1=>
     cases r1 with
     | cons h2 r2=>
      cases r2 with
      | cons h3 r3=>
       cases r3
       cases h1
       cases h2
       cases h3
       exact .cons (.str _) (.cons (.str _) (.cons (.int _) .nil))
theorem nd_ix {α:Type} {l:List α} (h:l.Nodup) {i j:Nat} {x:α} (a:l[i]? = some x) (b:l[j]? = some x):i=j:=
 (List.getElem?_inj (List.getElem?_eq_some_iff.mp a).1 h).mp (a.trans b.symm)
def sK (nv:List (Str × V)):List (Key × V):=nv.map fun q=>(Sum.inr q.1,q.2)
theorem sK_len (nv:List (Str × V)):(sK nv).length=nv.length:=List.length_map ..
theorem sK_keys (nv:List (Str × V)):(sK nv).map (·.1)=(nv.map (·.1)).map Sum.inr:=by unfold sK; rw [List.map_map,List.map_map]; rfl
theorem sK_app (a b:List (Str × V)):sK (a ++ b)=sK a ++ sK b:=List.map_append ..
theorem sK_none:∀ {nv:List (Str × V)} {y:Str},y ∉ nv.map (·.1)->valV (sK nv) (Sum.inr y:Key)=none
 | [],y,_=>rfl
 | q :: nv,y,h=>by
  rw [List.map_cons,List.mem_cons,not_or] at h
  show valV ((Sum.inr q.1,q.2) :: sK nv) (Sum.inr y:Key)=none
  rw [valV_neg (fun z=>h.1 (Sum.inr.inj z).symm)]
  exact sK_none h.2
theorem sK_some:∀ {nv:List (Str × V)} {y:Str} {v:V},(nv.map (·.1)).Nodup->(y,v) ∈ nv->valV (sK nv) (Sum.inr y:Key)=some v
 | [],y,v,_,h=>nomatch h
 | q :: nv,y,v,hn,h=>by
  rw [List.map_cons] at hn
  obtain ⟨h1,h2⟩:=List.nodup_cons.mp hn
  show valV ((Sum.inr q.1,q.2) :: sK nv) (Sum.inr y:Key)=some v
  rcases List.mem_cons.mp h with e | h'
  ·subst e
   exact valV_pos rfl
  ·rw [valV_neg (fun z=>h1 (by rw [Sum.inr.inj z]; exact List.mem_map.mpr ⟨(y,v),h',rfl⟩))]
   exact sK_some h2 h'
theorem sK_is {nv:List (Str × V)} {y:Str}:(valV (sK nv) (Sum.inr y:Key)).isSome=decide (y ∈ nv.map (·.1)):=by
 by_cases h:y ∈ nv.map (·.1)
 ·rw [decide_eq_true h]
  cases e:valV (sK nv) (Sum.inr y:Key) with
  | some v=>rfl
  | none=>
   have:=valV_not e
   rw [sK_keys] at this
   exact absurd (List.mem_map.mpr ⟨y,h,rfl⟩) this
 ·rw [decide_eq_false h,sK_none h]; rfl
theorem sK_new {nv:List (Str × V)} {y:Str} {v:V} (h:y ∉ nv.map (·.1)):putK (sK nv) (Sum.inr y:Key) v=sK (nv ++ [(y,v)]):=by
 rw [putK_new v (sK_none h),sK_app]; rfl
theorem sK_put (nv:List (Str × V)) (y:Str) (v:V):∃ nv',putK (sK nv) (Sum.inr y:Key) v=sK nv'/\nv'.length<=nv.length + 1/\∀ z,z ∈ nv'.map (·.1) ↔ z ∈ nv.map (·.1)\/z=y:=by
 by_cases h:y ∈ nv.map (·.1)
 ·refine ⟨nv.map fun q=>if q.1=y then (q.1,v) else q,?_,by rw [List.length_map]; (first|lia|omega),fun z=>?_⟩
  ·unfold putK
   have:((sK nv).any fun kv=>decide (kv.1=(Sum.inr y:Key)))=true:=by
    rw [valV_any,sK_is,decide_eq_true h]
   rw [if_pos this]
   unfold sK
   rw [List.map_map,List.map_map]
   refine List.map_congr_left fun q _=>?_
   by_cases e:q.1=y
   ·simp [e]
   ·have e':¬ (Sum.inr q.1:Key)=Sum.inr y:=fun z=>e (Sum.inr.inj z)
    simp [e,e']
  ·have e:(nv.map fun q=>if q.1=y then (q.1,v) else q).map (·.1)=nv.map (·.1):=by
    rw [List.map_map]
    refine List.map_congr_left fun q _=>?_
    by_cases e:q.1=y <;> simp [e]
   rw [e]
   constructor
   ·exact .inl
   ·rintro (q | rfl)
    ·exact q
    ·exact h
 ·refine ⟨nv ++ [(y,v)],sK_new h,by simp,fun z=>by simp⟩
theorem sK_at {nv:List (Str × V)} {i:Nat} {k:Key} {v:V} (h:(sK nv)[i]? = some (k,v)):∃ y,nv[i]? = some (y,v)/\k=.inr y:=by
 unfold sK at h
 rw [List.getElem?_map] at h
 cases e:nv[i]? with
 | none=>rw [e] at h; cases h
 | some q=>
  rw [e] at h
  simp only [Option.map_some,Option.some.injEq,Prod.mk.injEq] at h
  exact ⟨q.1,by rw [<-h.2],h.1.symm⟩
structure Web (H:Hp) (q:Addr) (ps:List Str) (ws:List Way):Prop where
 ex:∃ tp tw us,H q=some (.tup [.ref tp,.ref tw])/\H tp=some (.tup (ps.map V.str))/\H tw=some (.tup us)/\Dats H us (ws.map wayD)
theorem Web.same {H H':Hp} {q:Addr} {ps:List Str} {ws:List Way} (h:Web H q ps ws) (s:∀ b xs,H b=some (.tup xs)->H' b=some (.tup xs)):Web H' q ps ws:=by
 obtain ⟨tp,tw,us,h1,h2,h3,h4⟩:=h.ex
 exact ⟨tp,tw,us,s _ _ h1,s _ _ h2,s _ _ h3,way_dats h4 s⟩
def nbL (ps:List Str) (ds:List Addr):List (Str × V):=(ps.zip ds).map fun q=>(q.1,V.ref q.2)
theorem nbL_keys {ps:List Str} {ds:List Addr} (h:ps.length<=ds.length):(nbL ps ds).map (·.1)=ps:=by
 unfold nbL
 rw [List.map_map]
 have:((fun (x:Str × V)=>x.1) ∘ fun (q:Str × Addr)=>(q.1,V.ref q.2))=Prod.fst:=rfl
 rw [this,List.map_fst_zip h]
theorem nbL_mem {ps:List Str} {ds:List Addr} {i:Nat} {p:Str} {d:Addr} (h1:ps[i]? = some p) (h2:ds[i]? = some d):(p,V.ref d) ∈ nbL ps ds:=by
 unfold nbL
 refine List.mem_map.mpr ⟨(p,d),List.mem_of_getElem? (i:=i) ?_,rfl⟩
 rw [List.getElem?_zip_eq_some]
 exact ⟨h1,h2⟩
structure NB (H:Hp) (B:Addr) (ps:List Str) (ds:List Addr) (P:Str->Str->Prop) (n:Nat):Prop where
 top:H B=some (.dK (sK (nbL ps ds)))
 len:ds.length=ps.length
 nd:ds.Nodup
 nB:B ∉ ds
 inner:∀ (i:Nat) (p:Str) (d:Addr),ps[i]? = some p->ds[i]? = some d->∃ nv:List (Str × V),H d=some (.dK (sK nv))/\nv.length<=n/\∀ y,y ∈ nv.map (·.1) ↔ P p y
theorem NB.get {H:Hp} {B:Addr} {ps:List Str} {ds:List Addr} {P:Str->Str->Prop} {n:Nat} (h:NB H B ps ds P n) (hn:ps.Nodup) {p:Str} (hp:p ∈ ps) :
  ∃ (i:Nat) (d:Addr) (nv:List (Str × V)),ps[i]? = some p/\ds[i]? = some d/\valV (sK (nbL ps ds)) (Sum.inr p:Key)=some (.ref d)/\H d=some (.dK (sK nv))/\nv.length<=n/\∀ y,y ∈ nv.map (·.1) ↔ P p y:=by
 obtain ⟨i,hi,e⟩:=List.getElem_of_mem hp
 have e1:ps[i]? = some p:=by rw [List.getElem?_eq_getElem hi,e]
 have hi':i < ds.length:=by rw [h.len]; exact hi
 have e2:ds[i]? = some ds[i]:=List.getElem?_eq_getElem hi'
 obtain ⟨nv,a1,a2,a3⟩:=h.inner i p _ e1 e2
 refine ⟨i,_,nv,e1,e2,sK_some ?_ (nbL_mem e1 e2),a1,a2,a3⟩
 rw [nbL_keys (by rw [h.len]; exact Nat.le_refl _)]
 exact hn
theorem NB.put {H:Hp} {B:Addr} {ps:List Str} {ds:List Addr} {P:Str->Str->Prop} {n:Nat} (h:NB H B ps ds P n) {i:Nat} {p y:Str} {d:Addr} (hn:ps.Nodup) (e1:ps[i]? = some p) (e2:ds[i]? = some d) {nv nv':List (Str × V)} (hd:H d=some (.dK (sK nv)))
  (hl:nv'.length<=nv.length + 1) (hk:∀ z,z ∈ nv'.map (·.1) ↔ z ∈ nv.map (·.1)\/z=y) (hP:∀ z,z ∈ nv.map (·.1) ↔ P p z) (hln:nv.length<=n):NB (upd H d (.dK (sK nv'))) B ps ds (fun a b=>P a b\/(a=p/\b=y)) (n + 1):=by
 have dm:d ∈ ds:=List.mem_of_getElem? e2
 refine ⟨by rw [upd_ne (fun z=>h.nB (by rw [z]; exact dm))]; exact h.top,h.len,h.nd,h.nB,fun j q c f1 f2=>?_⟩
 by_cases z:c=d
 ·subst z
  have ij:i=j:=nd_ix h.nd e2 f2
  subst ij
  rw [e1] at f1; cases f1
  refine ⟨nv',upd_same,by (first|lia|omega),fun z=>?_⟩
  rw [hk,hP]
  simp
 ·obtain ⟨nw,b1,b2,b3⟩:=h.inner j q c f1 f2
  refine ⟨nw,by rw [upd_ne z]; exact b1,by (first|lia|omega),fun y'=>?_⟩
  rw [b3]
  have:q ≠ p:=by
   rintro rfl
   have ij:=nd_ix hn e1 f1
   subst ij
   rw [e2] at f2; cases f2
   exact z rfl
  simp [this]
theorem NB.mono {H:Hp} {B:Addr} {ps:List Str} {ds:List Addr} {P P':Str->Str->Prop} {n m:Nat} (h:NB H B ps ds P n) (hP:∀ a b,P a b ↔ P' a b) (hn:n<=m):NB H B ps ds P' m:=
 ⟨h.top,h.len,h.nd,h.nB,fun i p d e1 e2=>let ⟨nv,a1,a2,a3⟩:=h.inner i p d e1 e2; ⟨nv,a1,by (first|lia|omega),fun y=>(a3 y).trans (hP p y)⟩⟩
structure WebOk (H:Hp) (q:Addr) (ps:List Str) (ws:List Way) (r:Str):Prop where
 web:Web H q ps ws
 nd:ps.Nodup
 l30:ps.length<=30
 l64:ws.length < 64
 ends:∀ u ∈ ws,u.1 ∈ ps/\u.2.1 ∈ ps
 first:ps[0]? = some r
 con:∀ S:Str->Prop,S r->(∀ x y,Adj ws x y->S x->S y)->∀ x ∈ ps,S x
theorem WebOk.same {H H':Hp} {q:Addr} {ps:List Str} {ws:List Way} {r:Str} (h:WebOk H q ps ws r) (s:Same H H'):WebOk H' q ps ws r:=
 ⟨h.web.same fun b xs z=>s _ _ z,h.nd,h.l30,h.l64,h.ends,h.first,h.con⟩
theorem adj_take {ws:List Way} {i:Nat} {u:Way} (h:ws[i]? = some u) (a b:Str):Adj (ws.take (i + 1)) a b ↔ (Adj (ws.take i) a b\/(a=u.1/\b=u.2.1))\/(a=u.2.1/\b=u.1):=by
 rw [List.take_add_one,h]
 constructor
 ·rintro ⟨v,hv,e⟩
  rcases List.mem_append.mp hv with hv | hv
  ·exact .inl (.inl ⟨v,hv,e⟩)
  ·have:v=u:=by simpa using hv
   subst this
   rcases e with ⟨e1,e2⟩ | ⟨e1,e2⟩
   ·exact .inl (.inr ⟨e1.symm,e2.symm⟩)
   ·exact .inr ⟨e2.symm,e1.symm⟩
 ·rintro ((⟨v,hv,e⟩ | ⟨rfl,rfl⟩) | ⟨rfl,rfl⟩)
  ·exact ⟨v,List.mem_append_left _ hv,e⟩
  ·exact ⟨u,List.mem_append_right _ (by simp),.inl ⟨rfl,rfl⟩⟩
  ·exact ⟨u,List.mem_append_right _ (by simp),.inr ⟨rfl,rfl⟩⟩
structure NR (H:Hp) (B:Addr) (ps:List Str) (ds:List Addr) (P:Str->Str->Prop):Prop where
 top:H B=some (.dK (sK (nbL ps ds)))
 len:ds.length=ps.length
 nd:ds.Nodup
 nB:B ∉ ds
 inner:∀ (i:Nat) (p:Str) (d:Addr),ps[i]? = some p->ds[i]? = some d->∃ nv:List (Str × V),Rd H d (.dK (sK nv))/\∀ y,y ∈ nv.map (·.1) ↔ P p y
theorem NB.r {H:Hp} {B:Addr} {ps:List Str} {ds:List Addr} {P:Str->Str->Prop} {n:Nat} (h:NB H B ps ds P n):NR H B ps ds P:=
 ⟨h.top,h.len,h.nd,h.nB,fun i p d e1 e2=>let ⟨nv,a1,_,a3⟩:=h.inner i p d e1 e2; ⟨nv,.inl a1,a3⟩⟩
theorem NR.get {H:Hp} {B:Addr} {ps:List Str} {ds:List Addr} {P:Str->Str->Prop} (h:NR H B ps ds P) (hn:ps.Nodup) {p:Str} (hp:p ∈ ps) :
  ∃ (i:Nat) (d:Addr) (nv:List (Str × V)),ps[i]? = some p/\ds[i]? = some d/\valV (sK (nbL ps ds)) (Sum.inr p:Key)=some (.ref d)/\Rd H d (.dK (sK nv))/\∀ y,y ∈ nv.map (·.1) ↔ P p y:=by
 obtain ⟨i,hi,e⟩:=List.getElem_of_mem hp
 have e1:ps[i]? = some p:=by rw [List.getElem?_eq_getElem hi,e]
 have hi':i < ds.length:=by rw [h.len]; exact hi
 have e2:ds[i]? = some ds[i]:=List.getElem?_eq_getElem hi'
 obtain ⟨nv,a1,a3⟩:=h.inner i p _ e1 e2
 refine ⟨i,_,nv,e1,e2,sK_some ?_ (nbL_mem e1 e2),a1,a3⟩
 rw [nbL_keys (by rw [h.len]; exact Nat.le_refl _)]
 exact hn
theorem Rd.ne {H:Hp} {a b:Addr} {u o:HO} (h:Rd H a u) (hb:a ≠ b):Rd (upd H b o) a u:=by
 rcases h with h | ⟨ob,h⟩
 ·exact .inl (by rw [upd_ne hb]; exact h)
 ·exact .inr ⟨ob,by rw [upd_ne hb]; exact h⟩
theorem Rd.fz {H H':Hp} {a b:Addr} {u:HO} {kvs:List (Key × V)} {o:Obj} (h:Rd H a u) (f:Frozen H b kvs o H') (hb:a ≠ b):Rd H' a u:=by
 rcases h with h | ⟨ob,h⟩
 ·exact .inl (by rw [f.ne hb]; exact h)
 ·exact .inr ⟨ob,by rw [f.ne hb]; exact h⟩
theorem NR.other {H:Hp} {B a:Addr} {ps:List Str} {ds:List Addr} {P:Str->Str->Prop} {o:HO} (h:NR H B ps ds P) (ha:a ∉ ds) (hB:a ≠ B):NR (upd H a o) B ps ds P:=
 ⟨by rw [upd_ne (Ne.symm hB)]; exact h.top,h.len,h.nd,h.nB,fun i p d e1 e2=>let ⟨nv,a1,a3⟩:=h.inner i p d e1 e2
  ⟨nv,a1.ne (fun z=>ha (by rw [<-z]; exact List.mem_of_getElem? e2)),a3⟩⟩
theorem NR.freeze {H H':Hp} {B:Addr} {ps:List Str} {ds:List Addr} {P:Str->Str->Prop} (h:NR H B ps ds P) {i:Nat} {p:Str} {d:Addr} (e1:ps[i]? = some p) (e2:ds[i]? = some d) {nv:List (Str × V)} {o:Obj} (f:Frozen H d (sK nv) o H') (hP:∀ y,y ∈ nv.map (·.1) ↔ P p y):NR H' B ps ds P:=by
 have dm:d ∈ ds:=List.mem_of_getElem? e2
 refine ⟨by rw [f.ne (fun z=>h.nB (by rw [z]; exact dm))]; exact h.top,h.len,h.nd,h.nB,fun j q c f1 f2=>?_⟩
 by_cases z:c=d
 ·subst z
  have ij:i=j:=nd_ix h.nd e2 f2
  subst ij
  rw [e1] at f1; cases f1
  exact ⟨nv,.inr ⟨o,f.at⟩,hP⟩
 ·obtain ⟨nw,b1,b3⟩:=h.inner j q c f1 f2
  exact ⟨nw,b1.fz f z,b3⟩
theorem sK_putN {nv nv':List (Str × V)} {y:Str} {v:V} (e:putK (sK nv) (Sum.inr y:Key) v=sK nv') (hn:(nv.map (·.1)).Nodup):(nv'.map (·.1)).Nodup:=by
 have inj:∀ {a b:List (Str × V)},(sK a).map (·.1)=(sK b).map (·.1)->a.map (·.1)=b.map (·.1):=fun {a b} h=>by
  rw [sK_keys,sK_keys] at h
  exact List.map_inj_right (fun x y z=>Sum.inr.inj z) |>.mp h
 by_cases h:y ∈ nv.map (·.1)
 ·have e2:(putK (sK nv) (Sum.inr y:Key) v).map (·.1)=(sK nv).map (·.1):=by
   unfold putK
   have:((sK nv).any fun kv=>decide (kv.1=(Sum.inr y:Key)))=true:=by rw [valV_any,sK_is,decide_eq_true h]
   rw [if_pos this,List.map_map]
   refine List.map_congr_left fun q _=>?_
   by_cases e:q.1=(Sum.inr y:Key) <;> simp [e]
  rw [e] at e2
  rw [inj e2]
  exact hn
 ·rw [sK_new h] at e
  have e2:(nv ++ [(y,v)]).map (·.1)=nv'.map (·.1):=inj (by rw [e])
  rw [<-e2,List.map_append]
  refine List.nodup_append.mpr ⟨hn,List.nodup_cons.mpr ⟨by simp,.nil⟩,fun a ha b hb=>?_⟩
  have e3:b=y:=by simpa using hb
  subst e3
  rintro rfl
  exact h ha
section
variable {ws:List Way} {r:Str} {bs:List (Str × Option Str)} {wk:List (Str × List Str)} {ps:List Str}
end
theorem nodup_map_filter {α:Type} {l:List (Str × α)} (h:(l.map (·.1)).Nodup) (f:Str × α->Bool):((l.filter f).map (·.1)).Nodup:=by
 have s:List.Sublist ((l.filter f).map (·.1)) (l.map (·.1)):=List.Sublist.map _ List.filter_sublist
 exact s.nodup h
theorem Inv.thaw {X:Cx} {pins:List (Addr × Obj)} {σ:St} {H:Hp} {s:Shared} {a:Addr} {o:Obj} {u:HO} (I:Inv X pins σ H s) (e:H a=some (.frz o u)) (h0:∀ ob w,X.H₀ a ≠ some (.frz ob w)) (hu:u ≠ .own a/\∀ xs,u ≠ .tup xs):Inv X pins σ (upd H a u) s:=by
 obtain ⟨ho,hok⟩:=(show ObjOk X.prog X.w H s.heap a (.frz o u) from I.hok a _ e)
 have nn:∀ b,H b=none->b ≠ a:=fun b hb z=>by rw [z,e] at hb; cases hb
 have own:∀ b y,H b=some (.own y)->b ≠ a:=fun b y hb z=>by rw [z,e] at hb; cases hb
 have tup:∀ b xs,H b=some (.tup xs)->b ≠ a:=fun b xs hb z=>by rw [z,e] at hb; cases hb
 refine ⟨I.ok,I.os,I.bare,⟨I.base.keep,I.base.slot,fun b ob q n hx=>?_,I.base.there,fun b xs q=>?_,fun b ob w q=>?_,fun b ps q=>?_⟩,I.loc,I.cell,?_,fun x c q=>?_,fun p hp=>?_,fun b w q=>?_,I.len⟩
 ·have z:=I.base.free b ob q n hx
  rw [upd_ne (nn b z)]; exact z
 ·have z:=I.base.tups b xs q
  rw [upd_ne (tup b xs z)]; exact z
 ·have z:=I.base.frzs b ob w q
  by_cases hb:b=a
  ·subst hb; exact absurd q (h0 ob w)
  ·rw [upd_ne hb]; exact z
 ·obtain ⟨more,z⟩:=I.base.tbls b ps q
  refine ⟨more,?_⟩
  rw [upd_ne (fun hb=>by rw [hb,e] at z; cases z)]; exact z
 ·rw [upd_ne (nn _ I.free)]; exact I.free
 ·rw [upd_ne (nn _ (I.freeC x c q))]; exact I.freeC x c q
 ·obtain ⟨z1,z2,z3⟩:=I.pin p hp
  exact ⟨z1,by rw [upd_ne (nn _ z2)]; exact z2,z3⟩
 ·by_cases hb:b=a
  ·subst hb
   rw [upd_same] at q
   cases q
   exact hok.stay (fun c v _ z=>z) (fun c z=>by rw [upd_ne (own c _ z)]; exact z) fun c xs z=>by rw [upd_ne (tup c xs z)]; exact z
  ·rw [upd_ne hb] at q
   exact (I.hok b w q).stay (fun c v _ z=>z) (fun c z=>by rw [upd_ne (own c _ z)]; exact z) fun c xs z=>by rw [upd_ne (tup c xs z)]; exact z
theorem pe_thaw {X:Cx} {e:Expr} {t:TE} (h:PE X e t):PE X e (fun σ H Q=>t σ H fun x H1=>∃ a o kvs,H1 a=some (.frz o (.dK kvs))/\(∀ ob w,X.H₀ a ≠ some (.frz ob w))/\Q x (upd H1 a (.dK kvs))):=by
 intro pins s σ H Q I q
 refine thn (h pins s σ H _ I q) fun v s1 ⟨x,H1,I1,r1,a,o,kvs,e1,h0,q1⟩=>?_
 exact ⟨x,_,I1.thaw e1 h0 ⟨(by intro z; cases z),(by intro xs z; cases z)⟩,r1,q1⟩
def LtAt (A:Around) (s:Shared) (x y:Value) (b:Bool):Prop:=∀ (prog:Program) (w:World) (E Q:Value->Shared->Prop),Q (.bool b) s->wpAny (model prog w) A (richCompare .Lt x y) Q E s
theorem LtAt.int (A:Around) (s:Shared) (a:Int) (t:Tok) (c:Int) (u:Tok):LtAt A s (.int a t) (.int c u) (decide (a < c)):=fun prog w E Q h=>
 (PyProof.Rows.lt_int h:wpAny (model prog w) A (compareOp .Lt (.int a t) (.int c u)) Q E s)
theorem LtAt.str (A:Around) (s:Shared) (a:Str) (t:Tok) (c:Str) (u:Tok):LtAt A s (.str a t) (.str c u) (decide (a.cps.toList < c.cps.toList)):=fun prog w E Q h=>
 (PySem.P.lt_str h:wpAny (model prog w) A (compareOp .Lt (.str a t) (.str c u)) Q E s)
section
open PySem.SeqAt
open PySem.AutoSeq1 (wpAny_loadPart')
open PySem.MeetsSeq PySem.MeetsSeq2 PySem.MeetsSeq3
theorem tuple_lt2 (l b:Addr) (x1 x2 y1 y2:Value) (n n2:Nat) (dd dd2:Option Addr) (sl sl2:Array (Option Value)) (e1 b1 e2 b2:Bool) :
  Meets (Builtin.«tuple.__lt__» ⟨[.ref l,.ref b],[]⟩)
   (fun A R s=>s.heap.get? l=some { cls:=.type "tuple",dict:=dd,data:=.seq #[x1,x2] n,slots:=sl }/\s.heap.get? b=some { cls:=.type "tuple",dict:=dd2,data:=.seq #[y1,y2] n2,slots:=sl2 } /\
    EqAt A.in1 s x1 y1 e1/\(e1=false->LtAt A.in1 s x1 y1 b1)/\(e1=true->EqAt A.in1 s x2 y2 e2/\(e2=false->LtAt A.in1 s x2 y2 b2)) /\
    R (.ok (.ret (.bool (if e1=true then (if e2=true then false else b2) else b1)))) s):=
 .of_wp fun prog w A R s h=>by
  obtain ⟨hp,g,d,tk,os⟩:=s; obtain ⟨hl,hb,he1,hl1,h2,h⟩:=h
  have f2:=AutoSeq1.sub_tuple_tuple
  wp_walk using wpAny_loadPart' hl,wpAny_loadPart' hb,wpAny_forIn_list _ (fun rest b s'=>b.1=none/\s'=⟨hp,g,d,tk,os⟩/\(rest=[(x1,y1),(x2,y2)]\/(rest=[(x2,y2)]/\e1=true)\/(rest=[]/\e1=true/\e2=true))) _
  case turn=>
   rintro ⟨y,x⟩ rest b s' ⟨hb',rfl,hz | ⟨hz,h1⟩ | ⟨hz,_⟩⟩
   ·cases hz
    refine wpAny_bind (he1 prog w _ _ ?_)
    cases ee:e1 with
    | true=>
     wp_walk
     exact ⟨rfl,rfl,.inr (.inl ⟨rfl,rfl⟩)⟩
    | false=>
     rw [ee,if_neg Bool.false_ne_true] at h
     have hri:=hl1 ee prog w
     wp_walk using hri
     exact ⟨_,rfl,by simpa using h⟩
   ·cases hz
    obtain ⟨he2,hl2⟩:=h2 h1
    rw [if_pos h1] at h
    refine wpAny_bind (he2 prog w _ _ ?_)
    cases ee:e2 with
    | true=>
     wp_walk
     exact ⟨rfl,rfl,.inr (.inr ⟨rfl,h1,rfl⟩)⟩
    | false=>
     rw [ee,if_neg Bool.false_ne_true] at h
     have hri:=hl2 ee prog w
     wp_walk using hri
     exact ⟨_,rfl,by simpa using h⟩
   ·cases hz
  case fin=>
   rintro ⟨b1',b2'⟩ s' ⟨hb',rfl,hz | ⟨hz,h1⟩ | ⟨hz,h1,h2'⟩⟩
   ·cases hz
   ·cases hz
   ·simp only at hb'
    subst hb'
    rw [if_pos h1,if_pos h2'] at h
    wp_walk
    exact ⟨_,rfl,by simpa [Builtin.Tuple.tupleCompareSizes] using h⟩
  case h=>
   exact ⟨rfl,rfl,.inl rfl⟩
end
theorem LtAt.tup2 {A:Around} {s:Shared} {l b:Addr} {x1 x2 y1 y2:Value} {e1 b1 e2 b2:Bool} (hl:IsTup s.heap l #[x1,x2]) (hb:IsTup s.heap b #[y1,y2]) (hu:A.units < cLine) (h1:SeqAt.EqAt A.in1 s x1 y1 e1) (l1:e1=false->LtAt A.in1 s x1 y1 b1)
  (h2:e1=true->SeqAt.EqAt A.in1 s x2 y2 e2/\(e2=false->LtAt A.in1 s x2 y2 b2)):LtAt A s (.ref l) (.ref b) (if e1=true then (if e2=true then false else b2) else b1):=fun prog w E Q h=>by
 obtain ⟨⟨cls,dd,data,sl⟩,ho,hc,n,hd⟩:=id hl
 obtain ⟨⟨cls2,dd2,data2,sl2⟩,ho2,hc2,n2,hd2⟩:=id hb
 simp only at hc hd hc2 hd2
 subst hc hd hc2 hd2
 exact richCompare_meets_room (op:=.Lt) ⟨_,ho,rfl⟩ ⟨_,ho2,rfl⟩ PySem.F.slot_tuple_lt PySem.F.entry_tuple_lt (PySem.F.args_tuple_lt_2 _ _) (tuple_lt2 l b x1 x2 y1 y2 n n2 dd dd2 sl sl2 e1 b1 e2 b2)
  ⟨ho,ho2,h1,l1,h2,show Value.bool _ ≠ Value.notImplemented/\Q (.bool _) s from ⟨(fun x=>nomatch x),h⟩⟩ hu
def ltP (p q:Int × Str):Bool:=if (p.1 == q.1)=true then (if (p.2 == q.2)=true then false else decide (p.2.cps.toList < q.2.cps.toList)) else decide (p.1 < q.1)
def PairAt (h:Heap) (v:Value) (p:Int × Str):Prop:=∃ a t u,v=.ref a/\IsTup h a #[.int p.1 t,.str p.2 u]
theorem PairAt.keep {h h':Heap} {v:Value} {p:Int × Str} (x:PairAt h v p) (k:∀ b o,h.get? b=some o->h'.get? b=some o):PairAt h' v p:=by
 obtain ⟨a,t,u,rfl,o,ho,r⟩:=x
 exact ⟨a,t,u,rfl,o,k _ _ ho,r⟩
theorem lt_pair {A:Around} {s:Shared} {v w:Value} {p q:Int × Str} (hv:PairAt s.heap v p) (hw:PairAt s.heap w q) (hu:A.units < cLine):LtAt A s v w (ltP p q):=by
 obtain ⟨a,t,u,rfl,hl⟩:=hv
 obtain ⟨b,t',u',rfl,hb⟩:=hw
 exact LtAt.tup2 hl hb hu (SeqAt.EqAt.int_int _ _ _ _) (fun _=>LtAt.int _ _ _ _ _ _) fun _=>⟨SeqAt.EqAt.str_str _ _ _ _,fun _=>LtAt.str _ _ _ _ _ _⟩
theorem eq_pair {A:Around} {s:Shared} {v w:Value} {p q:Int × Str} (hv:PairAt s.heap v p) (hw:PairAt s.heap w q) (hu:A.units < cLine):SeqAt.EqAt A s v w (decide (p=q)):=by
 obtain ⟨a,t,u,rfl,hl⟩:=hv
 obtain ⟨b,t',u',rfl,hb⟩:=hw
 by_cases hab:a=b
 ·subst hab
  have e:p=q:=by
   obtain ⟨o,ho,hc,n,hd⟩:=hl
   obtain ⟨o',ho',hc',n',hd'⟩:=hb
   rw [ho] at ho'
   cases ho'
   rw [hd] at hd'
   injection hd' with e1 e2
   have e3:=congrArg Array.toList e1
   simp only [List.cons.injEq,Value.int.injEq,Value.str.injEq] at e3
   exact Prod.ext e3.1.1 e3.2.1.1
  rw [decide_eq_true e]
  intro prog w E Q h
  unfold eqBool
  refine wpAny_holding ?_
  exact wpAny_ite_split (fun _=>wpAny_bind (wpAny_rule (wpAny_pure h))) (fun hn=>absurd (by simp) hn)
 ·have key:=SeqAt.RcAt.tuples (A:=A) (s:=s) (e:=fun j=>if j=0 then p.1 == q.1 else p.2 == q.2) (show s.heap.IsTuple a #[.int p.1 t,.str p.2 u] from hl) (show s.heap.IsTuple b #[.int q.1 t',.str q.2 u'] from hb) hu (fun j h1 h2=>by
   match j,h1,h2 with
   | 0,_,_=>exact SeqAt.EqAt.int_int _ _ _ _
   | 1,_,_=>exact SeqAt.EqAt.str_str _ _ _ _
   | j + 2,h1,_=>exact absurd (show j + 2 < 2 from h1) (by (first|lia|omega)))
  have e:((List.range (min (#[Value.int p.1 t,.str p.2 u]:Array Value).size (#[Value.int q.1 t',.str q.2 u']:Array Value).size)).all (fun j=>if j=0 then p.1 == q.1 else p.2 == q.2) && (#[Value.int p.1 t,.str p.2 u]:Array Value).size == (#[Value.int q.1 t',.str q.2 u']:Array Value).size)=decide (p=q):=by
   show ((List.range 2).all (fun j=>if j=0 then p.1 == q.1 else p.2 == q.2) && (2 == 2))=decide (p=q)
   have:(List.range 2)=[0,1]:=rfl
   rw [this]
   simp only [List.all_cons,List.all_nil,Bool.and_true,beq_self_eq_true]
   rw [Bool.eq_iff_iff]
   simp [Prod.ext_iff]
  rw [e] at key
  exact SeqAt.EqAt.of_refs hab key
def KeyAt (h:Heap) (v:Value) (k:(Int × Str) × Str):Prop:=∃ a l u,v=.ref a/\IsTup h a #[.ref l,.str k.2 u]/\PairAt h (.ref l) k.1
theorem KeyAt.keep {h h':Heap} {v:Value} {p:(Int × Str) × Str} (x:KeyAt h v p) (k:∀ b o,h.get? b=some o->h'.get? b=some o):KeyAt h' v p:=by
 obtain ⟨a,l,u,rfl,⟨o,ho,r⟩,z⟩:=x
 exact ⟨a,l,u,rfl,⟨o,k _ _ ho,r⟩,z.keep k⟩
def ltK (p q:(Int × Str) × Str):Bool:=if decide (p.1=q.1)=true then (if (p.2 == q.2)=true then false else decide (p.2.cps.toList < q.2.cps.toList)) else ltP p.1 q.1
theorem lt_key {A:Around} {s:Shared} {v w:Value} {p q:(Int × Str) × Str} (hv:KeyAt s.heap v p) (hw:KeyAt s.heap w q) (hu:A.units + 1 < cLine):LtAt A s v w (ltK p q):=by
 obtain ⟨a,l,u,rfl,hl,hp⟩:=hv
 obtain ⟨b,l',u',rfl,hb,hq⟩:=hw
 exact LtAt.tup2 hl hb (by (first|lia|omega)) (eq_pair hp hq (by rw [PySem.Around.in1_units]; exact hu)) (fun _=>lt_pair hp hq (by rw [PySem.Around.in1_units]; exact hu)) fun _=>⟨SeqAt.EqAt.str_str _ _ _ _,fun _=>LtAt.str _ _ _ _ _ _⟩
def CmpH (prog:Program) (w:World) (A:Around) (g0:Heap) (P:Nat->Value->Prop) (bt:Nat->Nat->Bool):Prop:=
 ∀ i j vi vj (s:Shared) (Q:Value->Shared->Prop) (E:Value->Shared->Prop),(∀ b o,g0.get? b=some o->s.heap.get? b=some o)->P i vi->P j vj->Q (.bool (bt i j)) s->wpAny (model prog w) A (richCompare .Lt vi vj) Q E s
section
variable {prog:Program} {w:World} {A:Around} {R:Result->Shared->Prop} {I:Addr} {fp wr:List Addr} {n:Nat} {P:Nat->Value->Prop} {St:Nat->Heap->Prop} {g0:Heap}
theorem minH_loop (W:Walks prog w A.in1 I fp wr n P St) (bt:Nat->Nat->Bool) (cm:CmpH prog w A.in1 g0 P bt) (S:Addr) (nS:S ∉ fp) (gw:∀ b o,g0.get? b=some o->b ∉ wr/\b ≠ S) :
  ∀ (m j:Nat) (s:Shared) (bv:Value) (c:Nat),n - (j + 1)=m->j + 1<=n->St (j + 1) s.heap->P (argBest bt j) bv->(∀ b o,g0.get? b=some o->s.heap.get? b=some o) ->
  s.heap.get? S=some { cls:=.type "list",dict:=none,data:=.seq #[bv,bv] c,slots:=#[] } ->
  (∀ v h2 tk,P (argBest bt (n - 1)) v->(∀ b o,b ∉ wr->b ≠ S->s.heap.get? b=some o->h2.get? b=some o)->R (.ok (.ret v)) { s with heap:=h2,toks:=tk }) ->
  codeAny (model prog w) A (.builtin "min.loop" ⟨[.ref I,.none,.ref S],[]⟩) R s:=by
 have Sw:S ∉ wr:=fun z=>nS (W.sub _ z)
 have nm:(toString "min" ++ toString ".loop":String)="min.loop":=by decide
 intro m
 induction m with
 | zero=>
  intro j s bv c hm hj st pb g1 aS r
  have jn:j + 1=n:=by (first|lia|omega)
  refine codeAny_builtin F.entry_min_loop ?_
  rw [Around.under_plainId F.plain_min_loop _]
  refine wpAny_bind (m:=seqItems? (.ref S)) (wpAny_seqItems aS rfl ?_)
  refine wpAny_bind (wpAny_tryCatch (W.done s _ _ (jn ▸ st) fun h2 tk k2=>?_))
  have aS2:=k2 S _ Sw aS
  refine wpAny_bind (m:=updateSeq S (fun _=>#[])) ?_
  refine wpAny_updateSeq aS2 rfl (wpAny_bind (wpAny_letGo (wpAny_pure ?_)))
  exact r bv _ tk (by rw [<-jn]; exact pb) fun b o bw bS e=>(Heap.get?_update_other _ _ (Ne.symm bS)).trans (k2 b o bw e)
 | succ m ih=>
  intro j s bv c hm hj st pb g1 aS r
  have lt:j + 1 < n:=by (first|lia|omega)
  refine codeAny_builtin F.entry_min_loop ?_
  rw [Around.under_plainId F.plain_min_loop _]
  refine wpAny_bind (m:=seqItems? (.ref S)) (wpAny_seqItems aS rfl ?_)
  refine wpAny_bind (wpAny_tryCatch (W.item (j + 1) s _ _ lt st fun v h2 tk pv st2 k2=>?_))
  have aS2:=k2 S _ Sw aS
  have g2:∀ b o,g0.get? b=some o->h2.get? b=some o:=fun b o e=>k2 b o (gw b o e).1 (g1 b o e)
  show wpAny _ A.in1 (tryCatch (holding [v,v] (richCompare .Lt v bv >>= _)) _ >>= _) _ _ _
  refine wpAny_bind (wpAny_tryCatch (wpAny_holding (wpAny_bind (cm (j + 1) (argBest bt j) v bv _ _ _ g2 pv pb ?_))))
  refine wpAny_bind (wpAny_holding (wpAny_truthy_bool ?_))
  refine wpAny_bind (wpAny_letGo (wpAny_pure ?_))
  cases hb:bt (j + 1) (argBest bt j) with
  | true=>
   simp only [if_true]
   refine wpAny_bind ?_
   refine wpAny_updateSeq aS2 rfl (wpAny_bind (wpAny_letGo ?_))
   rw [nm]
   refine wpAny_pure ⟨plainId_quiet F.plain_min_loop _,ih (j + 1) _ v _ (by (first|lia|omega)) lt (W.frame _ _ _ st2 fun b bf o e=>?_) (by simp only [argBest,hb,if_true]; exact pv) (fun b o e=>?_) (Heap.get?_update_self _ aS2 rfl) fun v' h3 tk3 pv' k3=>?_⟩
   ·exact (Heap.get?_update_other _ _ (fun z:S=b=>nS (by rw [z]; exact bf))).trans e
   ·exact (Heap.get?_update_other _ _ (Ne.symm (gw b o e).2)).trans (g2 b o e)
   ·exact r v' h3 tk3 pv' fun b o bw bS e=>k3 b o bw bS ((Heap.get?_update_other _ _ (Ne.symm bS)).trans (k2 b o bw e))
  | false=>
   simp only [Bool.false_eq_true,if_false]
   refine wpAny_bind (wpAny_letGo ?_)
   rw [nm]
   refine wpAny_pure ⟨plainId_quiet F.plain_min_loop _,ih (j + 1) _ bv c (by (first|lia|omega)) lt st2 (by simp only [argBest,hb,Bool.false_eq_true,if_false]; exact pb) g2 aS2 fun v' h3 tk3 pv' k3=>?_⟩
   exact r v' h3 tk3 pv' fun b o bw bS e=>k3 b o bw bS (k2 b o bw e)
theorem minH_first (W:Walks prog w A.in1 I fp wr n P St) (bt:Nat->Nat->Bool) (cm:CmpH prog w A.in1 g0 P bt) (S:Addr) (nS:S ∉ fp) (gw:∀ b o,g0.get? b=some o->b ∉ wr/\b ≠ S) (hn:0 < n) {s:Shared} {c:Nat} (st:St 0 s.heap)
  (g1:∀ b o,g0.get? b=some o->s.heap.get? b=some o) (aS:s.heap.get? S=some { cls:=.type "list",dict:=none,data:=.seq #[] c,slots:=#[] })
  (r:∀ v h2 tk,P (argBest bt (n - 1)) v->(∀ b o,b ∉ wr->b ≠ S->s.heap.get? b=some o->h2.get? b=some o)->R (.ok (.ret v)) { s with heap:=h2,toks:=tk }) :
  codeAny (model prog w) A (.builtin "min.loop" ⟨[.ref I,.none,.ref S],[]⟩) R s:=by
 have Sw:S ∉ wr:=fun z=>nS (W.sub _ z)
 have nm:(toString "min" ++ toString ".loop":String)="min.loop":=by decide
 refine codeAny_builtin F.entry_min_loop ?_
 rw [Around.under_plainId F.plain_min_loop _]
 refine wpAny_bind (m:=seqItems? (.ref S)) (wpAny_seqItems aS rfl ?_)
 refine wpAny_bind (wpAny_tryCatch (W.item 0 s _ _ hn st fun v h2 tk pv st2 k2=>?_))
 have aS2:=k2 S _ Sw aS
 refine wpAny_bind (m:=updateSeq S (fun _=>#[v,v])) ?_
 refine wpAny_updateSeq aS2 rfl ?_
 rw [nm]
 refine wpAny_pure ⟨plainId_quiet F.plain_min_loop _,minH_loop W bt cm S nS gw _ 0 _ v _ rfl hn (W.frame _ _ _ st2 fun b bf o e=>?_) pv (fun b o e=>?_) (Heap.get?_update_self _ aS2 rfl) fun v' h3 tk3 pv' k3=>?_⟩
 ·exact (Heap.get?_update_other _ _ (fun z:S=b=>nS (by rw [z]; exact bf))).trans e
 ·exact (Heap.get?_update_other _ _ (Ne.symm (gw b o e).2)).trans (k2 b o (gw b o e).1 (g1 b o e))
 ·exact r v' h3 tk3 pv' fun b o bw bS e=>k3 b o bw bS ((Heap.get?_update_other _ _ (Ne.symm bS)).trans (k2 b o bw e))
end
section
variable {prog:Program} {w:World} {A:Around} {E:Value->Shared->Prop} {s:Shared}
theorem min_listH {l:Addr} {vs:List Value} {bt:Nat->Nat->Bool} {Q:Value->Shared->Prop} (hh:A.handled=none) (hl:s.heap.IsList l vs.toArray) (hn:0 < vs.length) (cm:CmpH prog w A.in1 s.heap (fun i v=>vs[i]? = some v) bt)
  (h:∀ v h2 tk,vs[argBest bt (vs.length - 1)]? = some v->(∀ b o,s.heap.get? b=some o->h2.get? b=some o)->Q v { s with heap:=h2,toks:=tk }):wpAny (model prog w) A (call (.builtin "min") [.ref l]) Q E s:=by
 have nm:(toString "min" ++ toString ".loop":String)="min.loop":=by decide
 have hlt:l < s.heap.objs.size:=by obtain ⟨o,ho,_⟩:=id hl; exact Heap.lt_size ho
 refine call_function_tree F.kind_min F.plain_min F.entry_min (F.args_min1 _) ?_
 refine wpAny_bind (wpAny_of_eq (show Builtin.Builtins.bindParams "min" ["key","default"] 0 ⟨[],[]⟩=pure [none,none] from rfl) ?_)
 refine wpAny_bind (wpAny_pure ?_)
 refine wpAny_bind (wpAny_pyIter_list hl ?_)
 refine wpAny_bind (wpAny_newObj_type ?_)
 rw [nm]
 have sz:(s.heap.push { cls:=.type "list_iterator",data:=.fields #[.ref l,.int 0 0] }).objs.size=s.heap.objs.size + 1:=Heap.size_push ..
 have W:=(Walks.list (prog:=prog) (w:=w) (A:=A.in1) hh s.heap.objs.size l (Nat.ne_of_lt hlt) vs.toArray).weaken (P':=fun i v=>vs[i]? = some v) (fun i v e=>by simpa using e)
 refine wpAny_pure ⟨plainId_quiet F.plain_min_loop _,minH_first (g0:=s.heap) W bt cm (s.heap.push { cls:=.type "list_iterator",data:=.fields #[.ref l,.int 0 0] }).objs.size (fun hm=>?_) (fun b o e=>⟨fun hm=>?_,fun z=>?_⟩) (by simpa using hn) ?_ (fun b o e=>Heap.get?_push_of_some _ (Heap.get?_push_of_some _ e)) (Heap.get?_push_size _ rfl) fun v h2 tk pv k2=>?_⟩
 ·rw [sz] at hm
  rcases List.mem_cons.mp hm with z | hm
  ·exact absurd z (Nat.succ_ne_self _)
  ·rcases List.mem_cons.mp hm with z | hm
   ·exact absurd z (Nat.ne_of_gt (Nat.lt_succ_of_lt hlt))
   ·cases hm
 ·have:=Heap.lt_size e
  rw [List.mem_singleton.mp hm] at this
  exact absurd this (Nat.lt_irrefl _)
 ·have:=Heap.lt_size e
  rw [z,sz] at this
  exact absurd this (Nat.not_lt.mpr (Nat.le_succ _))
 ·exact ⟨⟨_,Heap.get?_push_of_some _ (Heap.get?_push_size _ rfl),rfl,rfl⟩,(hl.push _).push _⟩
 ·refine h v h2 tk (by simpa using pv) fun b o e=>k2 b o (fun hm=>?_) (fun z=>?_) (Heap.get?_push_of_some _ (Heap.get?_push_of_some _ e))
  ·have:=Heap.lt_size e
   rw [List.mem_singleton.mp hm] at this
   exact absurd this (Nat.lt_irrefl _)
  ·have:=Heap.lt_size e
   rw [z,sz] at this
   exact absurd this (Nat.not_lt.mpr (Nat.le_succ _))
end
section
variable {prog:Program} {w:World} {A:Around} {E:Value->Shared->Prop} {s:Shared}
theorem min_twoH {a b:Value} {bt:Nat->Nat->Bool} {Q:Value->Shared->Prop} (hh:A.handled=none) (cm:CmpH prog w A.in1 s.heap (fun i v=>[a,b][i]? = some v) bt)
  (h:∀ v h2 tk,[a,b][argBest bt 1]? = some v->(∀ c o,s.heap.get? c=some o->h2.get? c=some o)->Q v { s with heap:=h2,toks:=tk }):wpAny (model prog w) A (call (.builtin "min") [a,b]) Q E s:=by
 have nm:(toString "min" ++ toString ".loop":String)="min.loop":=by decide
 have hT:(s.heap.push { cls:=.type "tuple",data:=.seq #[a,b] }).IsTuple s.heap.objs.size #[a,b]:=⟨_,Heap.get?_push_size _ rfl,rfl,0,rfl⟩
 refine call_function_tree F.kind_min F.plain_min F.entry_min (F.args_min2 _ _) ?_
 refine wpAny_bind (wpAny_of_eq (show Builtin.Builtins.bindParams "min" ["key","default"] 0 ⟨[],[]⟩=pure [none,none] from rfl) ?_)
 show wpAny _ A.in1 (newTuple [a,b] >>= _) _ _ s
 refine wpAny_bind (wpAny_newObj_type ?_)
 refine wpAny_bind (wpAny_pyIter_tuple hT ?_)
 refine wpAny_bind (wpAny_newObj_type ?_)
 rw [nm]
 have s1:(s.heap.push { cls:=.type "tuple",data:=.seq #[a,b] }).objs.size=s.heap.objs.size + 1:=Heap.size_push ..
 have s2:((s.heap.push { cls:=.type "tuple",data:=.seq #[a,b] }).push { cls:=.type "tuple_iterator",data:=.fields #[.ref s.heap.objs.size,.int 0 0] }).objs.size=s.heap.objs.size + 2:=by rw [Heap.size_push,s1]
 have W:=(Walks.tuple (prog:=prog) (w:=w) (A:=A.in1) hh (s.heap.push { cls:=.type "tuple",data:=.seq #[a,b] }).objs.size s.heap.objs.size (by rw [s1]; exact Nat.ne_of_lt (Nat.lt_succ_self _)) #[a,b]).weaken (P':=fun i v=>[a,b][i]? = some v) (fun i v e=>by simpa using e)
 refine wpAny_pure ⟨plainId_quiet F.plain_min_loop _,minH_first (g0:=s.heap) W bt cm ((s.heap.push { cls:=.type "tuple",data:=.seq #[a,b] }).push { cls:=.type "tuple_iterator",data:=.fields #[.ref s.heap.objs.size,.int 0 0] }).objs.size (fun hm=>?_) (fun b o e=>⟨fun hm=>?_,fun z=>?_⟩) (by simp) ?_ (fun b o e=>Heap.get?_push_of_some _ (Heap.get?_push_of_some _ (Heap.get?_push_of_some _ e))) (Heap.get?_push_size _ rfl) fun v h2 tk pv k2=>?_⟩
 ·rw [s2] at hm
  rcases List.mem_cons.mp hm with z | hm
  ·rw [s1] at z; exact absurd z (Nat.ne_of_gt (Nat.lt_succ_self _))
  ·rcases List.mem_cons.mp hm with z | hm
   ·exact absurd z (Nat.ne_of_gt (Nat.lt_succ_of_lt (Nat.lt_succ_self _)))
   ·cases hm
 ·have:=Heap.lt_size e
  rw [List.mem_singleton.mp hm,s1] at this
  exact absurd this (Nat.not_lt.mpr (Nat.le_succ _))
 ·have:=Heap.lt_size e
  rw [z,s2] at this
  exact absurd this (Nat.not_lt.mpr (Nat.le_trans (Nat.le_succ _) (Nat.le_succ _)))
 ·exact ⟨⟨_,Heap.get?_push_of_some _ (Heap.get?_push_size _ rfl),rfl,rfl⟩,(hT.push _).push _⟩
 ·refine h v h2 tk (by simpa using pv) fun b o e=>k2 b o (fun hm=>?_) (fun z=>?_) (Heap.get?_push_of_some _ (Heap.get?_push_of_some _ (Heap.get?_push_of_some _ e)))
  ·have:=Heap.lt_size e
   rw [List.mem_singleton.mp hm,s1] at this
   exact absurd this (Nat.not_lt.mpr (Nat.le_succ _))
  ·have:=Heap.lt_size e
   rw [z,s2] at this
   exact absurd this (Nat.not_lt.mpr (Nat.le_trans (Nat.le_succ _) (Nat.le_succ _)))
end
theorem argBest_le (bt:Nat->Nat->Bool) (num:Nat->Int) (h1:∀ i j,bt i j=true->num i<=num j) (h2:∀ i j,bt i j=false->num j<=num i):∀ k,argBest bt k<=k/\∀ j,j<=k->num (argBest bt k)<=num j
 | 0=>⟨Nat.le_refl _,fun j hj=>by
  have:j=0:=by (first|lia|omega)
  subst this; exact Int.le_refl _⟩
 | k + 1=>by
  obtain ⟨a1,a2⟩:=argBest_le bt num h1 h2 k
  simp only [argBest]
  cases hc:bt (k + 1) (argBest bt k) with
  | true=>
   simp only [if_true]
   refine ⟨Nat.le_refl _,fun j hj=>?_⟩
   have:=h1 _ _ hc
   by_cases hj':j<=k
   ·have:=a2 j hj'; (first|lia|omega)
   ·have:j=k + 1:=by (first|lia|omega)
    subst this; exact Int.le_refl _
  | false=>
   simp only [Bool.false_eq_true,if_false]
   refine ⟨Nat.le_succ_of_le a1,fun j hj=>?_⟩
   by_cases hj':j<=k
   ·exact a2 j hj'
   ·have:j=k + 1:=by (first|lia|omega)
    subst this; exact h2 _ _ hc
def PrH (H:Hp) (v:V) (p:Int × Str):Prop:=∃ t,v=.ref t/\H t=some (.tup [.int p.1,.str p.2])
def KyH (H:Hp) (v:V) (k:(Int × Str) × Str):Prop:=∃ t t2,v=.ref t/\H t=some (.tup [.ref t2,.str k.2])/\PrH H (.ref t2) k.1
theorem PrH.same {H H':Hp} {v:V} {p:Int × Str} (h:PrH H v p) (s:∀ b xs,H b=some (.tup xs)->H' b=some (.tup xs)):PrH H' v p:=let ⟨t,e,z⟩:=h; ⟨t,e,s _ _ z⟩
theorem KyH.same {H H':Hp} {v:V} {p:(Int × Str) × Str} (h:KyH H v p) (s:∀ b xs,H b=some (.tup xs)->H' b=some (.tup xs)):KyH H' v p:=let ⟨t,t2,e,z,q⟩:=h; ⟨t,t2,e,s _ _ z,q.same s⟩
theorem PrH.at {X:Cx} {pins:List (Addr × Obj)} {σ:St} {H:Hp} {s:Shared} {v:V} {u:Value} {p:Int × Str} (I:Inv X pins σ H s) (r:RelV v u) (h:PrH H v p):PairAt s.heap u p:=by
 obtain ⟨t,rfl,ht⟩:=h
 cases r
 obtain ⟨its,rv,pl,hz⟩:=I.tuple (SqT.of ht)
 cases rv with
 | cons a1 b1=>
  cases b1 with
  | cons a2 b2=>
   cases b2
   obtain ⟨t1,rfl⟩:=a1
   obtain ⟨t2,rfl⟩:=a2
   exact ⟨t,t1,t2,rfl,pl⟩
theorem KyH.at {X:Cx} {pins:List (Addr × Obj)} {σ:St} {H:Hp} {s:Shared} {v:V} {u:Value} {k:(Int × Str) × Str} (I:Inv X pins σ H s) (r:RelV v u) (h:KyH H v k):KeyAt s.heap u k:=by
 obtain ⟨t,l,rfl,ht,hp⟩:=h
 cases r
 obtain ⟨its,rv,pl,hz⟩:=I.tuple (SqT.of ht)
 cases rv with
 | cons a1 b1=>
  cases b1 with
  | cons a2 b2=>
   cases b2
   cases a1
   obtain ⟨t2,rfl⟩:=a2
   exact ⟨t,l,t2,rfl,pl,hp.at I (show RelV (V.ref l) (Value.ref l) from rfl)⟩
def leP (p q:Int × Str):Prop:=p.1 < q.1\/(p.1=q.1/\¬ q.2.cps.toList < p.2.cps.toList)
theorem leP.refl (p:Int × Str):leP p p:=.inr ⟨rfl,List.lt_irrefl _⟩
theorem leP.trans {p q r:Int × Str} (h1:leP p q) (h2:leP q r):leP p r:=by
 rcases h1 with a | ⟨a,b⟩ <;> rcases h2 with c | ⟨c,d⟩
 ·exact .inl (by (first|lia|omega))
 ·exact .inl (by (first|lia|omega))
 ·exact .inl (by (first|lia|omega))
 ·exact .inr ⟨by (first|lia|omega),List.not_lt.mpr (List.le_trans (List.not_lt.mp b) (List.not_lt.mp d))⟩
theorem leP.add {d d' l:Int} {s s':Str} (h:leP (d,s) (d',s')):leP (d + l,s) (d' + l,s'):=by
 rcases h with a | ⟨a,b⟩
 ·have a':d < d':=a
  exact .inl (show d + l < d' + l by (first|lia|omega))
 ·have a':d=d':=a
  exact .inr ⟨show d + l=d' + l by (first|lia|omega),b⟩
theorem leP.up {d d':Int} {s:Str} (h:d<=d'):leP (d,s) (d',s):=by
 by_cases e:d=d'
 ·exact .inr ⟨e,List.lt_irrefl _⟩
 ·exact .inl (show d < d' by (first|lia|omega))
theorem leP.fst {p q:Int × Str} (h:leP p q):p.1<=q.1:=by
 rcases h with a | ⟨a,_⟩ <;> (first|lia|omega)
theorem ltP_leP {p q:Int × Str} (h:ltP p q=true):leP p q:=by
 unfold ltP at h
 by_cases e:(p.1 == q.1)=true
 ·have e':p.1=q.1:=by simpa using e
  rw [if_pos e] at h
  by_cases e2:(p.2 == q.2)=true
  ·rw [if_pos e2] at h; cases h
  ·rw [if_neg e2] at h
   exact .inr ⟨e',List.lt_asymm (by simpa using h)⟩
 ·rw [if_neg e] at h
  exact .inl (by simpa using h)
theorem ltP_geP {p q:Int × Str} (h:ltP p q=false):leP q p:=by
 unfold ltP at h
 by_cases e:(p.1 == q.1)=true
 ·have e':p.1=q.1:=by simpa using e
  rw [if_pos e] at h
  by_cases e2:(p.2 == q.2)=true
  ·have e2':p.2=q.2:=by simpa using e2
   exact .inr ⟨e'.symm,by rw [e2']; exact List.lt_irrefl _⟩
  ·rw [if_neg e2] at h
   exact .inr ⟨e'.symm,by simpa using h⟩
 ·rw [if_neg e] at h
  have e':¬ p.1=q.1:=by simpa using e
  have:¬ p.1 < q.1:=by simpa using h
  exact .inl (by (first|lia|omega))
theorem ltK_leP {p q:(Int × Str) × Str} (h:ltK p q=true):leP p.1 q.1:=by
 unfold ltK at h
 by_cases e:decide (p.1=q.1)=true
 ·have:p.1=q.1:=by simpa using e
  rw [this]; exact leP.refl _
 ·rw [if_neg e] at h
  exact ltP_leP h
theorem ltK_geP {p q:(Int × Str) × Str} (h:ltK p q=false):leP q.1 p.1:=by
 unfold ltK at h
 by_cases e:decide (p.1=q.1)=true
 ·have:p.1=q.1:=by simpa using e
  rw [this]; exact leP.refl _
 ·rw [if_neg e] at h
  exact ltP_geP h
theorem argBest_leP (bt:Nat->Nat->Bool) (num:Nat->Int × Str) (h1:∀ i j,bt i j=true->leP (num i) (num j)) (h2:∀ i j,bt i j=false->leP (num j) (num i)):∀ k,argBest bt k<=k/\∀ j,j<=k->leP (num (argBest bt k)) (num j)
 | 0=>⟨Nat.le_refl _,fun j hj=>by
  have:j=0:=by (first|lia|omega)
  subst this; exact leP.refl _⟩
 | k + 1=>by
  obtain ⟨a1,a2⟩:=argBest_leP bt num h1 h2 k
  simp only [argBest]
  cases hc:bt (k + 1) (argBest bt k) with
  | true=>
   simp only [if_true]
   refine ⟨Nat.le_refl _,fun j hj=>?_⟩
   by_cases hj':j<=k
   ·exact (h1 _ _ hc).trans (a2 j hj')
   ·have:j=k + 1:=by (first|lia|omega)
    subst this; exact leP.refl _
  | false=>
   simp only [Bool.false_eq_true,if_false]
   refine ⟨Nat.le_succ_of_le a1,fun j hj=>?_⟩
   by_cases hj':j<=k
   ·exact a2 j hj'
   ·have:j=k + 1:=by (first|lia|omega)
    subst this; exact h2 _ _ hc
theorem call_min_keysP {X:Cx} (hc:X.calm=true) (hu:X.A.units + 64 < cLine):CallR X (.builtin "min") (fun xs H Q=>∃ (a:Addr) (vs:List V) (ks:List ((Int × Str) × Str)),xs=[.ref a]/\H a=some (.lst vs)/\vs.length=ks.length/\ks ≠ []/\(∀ (i:Nat) v k,vs[i]? = some v->ks[i]? = some k->KyH H v k) /\
  ∀ v k,k ∈ ks->KyH H v k->(∀ k' ∈ ks,leP k.1 k'.1)->Q v H):=by
 intro pins s σ H xs us Q I r h
 obtain ⟨a,vs,ks,rfl,ha,hl,hne,hk,q⟩:=h
 obtain ⟨u,rfl,ru⟩:=vals1 r
 cases ru
 obtain ⟨its,rv,pl,hz⟩:=I.list (SqL.of ha)
 have il:its.length=ks.length:=by rw [<-rv.length,hl]
 have pos:0 < ks.length:=List.length_pos_iff.mpr hne
 have kat:∀ (i:Nat) (v:Value),its[i]? = some v->∃ k,ks[i]? = some k/\KeyAt s.heap v k/\∃ x,vs[i]? = some x/\RelV x v:=fun i v e=>by
  have hi:i < its.length:=(List.getElem?_eq_some_iff.mp e).1
  have e1:vs[i]? = some vs[i]:=List.getElem?_eq_getElem (by (first|lia|omega))
  have e2:ks[i]? = some ks[i]:=List.getElem?_eq_getElem (by (first|lia|omega))
  obtain ⟨v',e3,r3⟩:=rv.get e1
  rw [e] at e3
  cases e3
  exact ⟨_,e2,(hk i _ _ e1 e2).at I r3,_,e1,r3⟩
 refine min_listH (bt:=fun i j=>ltK (ks.getD i default) (ks.getD j default)) (I.ok.hd hc) pl.isList (by (first|lia|omega)) (fun i j vi vj s' Q' E' g hi hj hQ=>?_) fun v h2 tk hv k2=>?_
 ·obtain ⟨ki,e1,a1,_⟩:=kat i vi hi
  obtain ⟨kj,e2,a2,_⟩:=kat j vj hj
  have d1:ks.getD i default=ki:=by rw [List.getD_eq_getElem?_getD,e1]; rfl
  have d2:ks.getD j default=kj:=by rw [List.getD_eq_getElem?_getD,e2]; rfl
  dsimp only at hQ
  rw [d1,d2] at hQ
  exact lt_key (a1.keep g) (a2.keep g) (by rw [PySem.Around.in1_units]; (first|lia|omega)) _ _ _ _ hQ
 ·obtain ⟨k,e1,a1,x,e3,r3⟩:=kat _ v hv
  obtain ⟨b1,b2⟩:=argBest_leP (fun i j=>ltK (ks.getD i default) (ks.getD j default)) (fun i=>(ks.getD i default).1) (fun _ _=>ltK_leP) (fun _ _=>ltK_geP) (its.length - 1)
  refine ⟨x,H,I.kept k2,r3,q x k (List.mem_of_getElem? e1) (hk _ x k e3 e1) fun k' hk'=>?_⟩
  obtain ⟨j,hj,ej⟩:=List.getElem_of_mem hk'
  have:=b2 j (by (first|lia|omega))
  have d1:ks.getD (argBest (fun i j=>ltK (ks.getD i default) (ks.getD j default)) (its.length - 1)) default=k:=by rw [List.getD_eq_getElem?_getD,e1]; rfl
  have d2:ks.getD j default=k':=by rw [List.getD_eq_getElem?_getD,List.getElem?_eq_getElem hj,ej]; rfl
  rw [d1,d2] at this
  exact this
theorem call_min_prsP {X:Cx} (hc:X.calm=true) (hu:X.A.units + 64 < cLine):CallR X (.builtin "min") (fun xs H Q=>∃ (x y:V) (p q:Int × Str),xs=[x,y]/\PrH H x p/\PrH H y q/\((leP q p->Q y H)/\(leP p q->Q x H))):=by
 intro pins s σ H xs us Q I r h
 obtain ⟨x,y,p,q,rfl,hx,hy,q1,q2⟩:=h
 obtain ⟨u,v,rfl,ru,rv⟩:=vals2 r
 have pu:=hx.at I ru
 have pv:=hy.at I rv
 refine min_twoH (bt:=fun i j=>ltP ([p,q].getD i default) ([p,q].getD j default)) (I.ok.hd hc) (fun i j vi vj s' Q' E' g hi hj hQ=>?_) fun z h2 tk hz k2=>?_
 ·have at':∀ (i:Nat) (vi:Value),[u,v][i]? = some vi->PairAt s.heap vi ([p,q].getD i default):=fun i vi e=>by
   match i,e with
   | 0,e=>cases e; exact pu
   | 1,e=>cases e; exact pv
   | i + 2,e=>cases e
  exact lt_pair ((at' i vi hi).keep g) ((at' j vj hj).keep g) (by rw [PySem.Around.in1_units]; (first|lia|omega)) _ _ _ _ hQ
 ·have e:argBest (fun i j=>ltP ([p,q].getD i default) ([p,q].getD j default)) 1=if ltP q p=true then 1 else 0:=rfl
  rw [e] at hz
  cases hl:ltP q p with
  | true=>
   rw [hl,if_pos rfl] at hz
   cases hz
   exact ⟨y,H,I.kept k2,rv,q1 (ltP_leP hl)⟩
  | false=>
   rw [hl,if_neg Bool.false_ne_true] at hz
   cases hz
   exact ⟨x,H,I.kept k2,ru,q2 (ltP_geP hl)⟩
def Edge (ws:List Way) (x y:Str) (l:Int):Prop:=∃ u ∈ ws,((u.1=x/\u.2.1=y)\/(u.1=y/\u.2.1=x))/\u.2.2=l
theorem Edge.adj {ws:List Way} {x y:Str} {l:Int} (h:Edge ws x y l):Adj ws x y:=let ⟨u,hu,e,_⟩:=h; ⟨u,hu,e⟩
theorem Edge.symm {ws:List Way} {x y:Str} {l:Int} (h:Edge ws x y l):Edge ws y x l:=let ⟨u,hu,e,z⟩:=h; ⟨u,hu,e.symm,z⟩
inductive Wsum (ws:List Way):Str->Str->Int->Prop
 | nil (x:Str):Wsum ws x x 0
 | cons {x y z:Str} {l m:Int}:Edge ws x y l->Wsum ws y z m->Wsum ws x z (l + m)
theorem Wsum.app {ws:List Way} {x y z:Str} {m n:Int} (h:Wsum ws x y m) (g:Wsum ws y z n):Wsum ws x z (m + n):=by
 induction h with
 | nil x=>rw [Int.zero_add]; exact g
 | cons e _ ih=>rw [Int.add_assoc]; exact .cons e (ih g)
theorem Wsum.snoc {ws:List Way} {x y z:Str} {m l:Int} (h:Wsum ws x y m) (e:Edge ws y z l):Wsum ws x z (m + l):=by
 have:=h.app (.cons e (.nil z))
 rwa [Int.add_zero] at this
theorem Wsum.symm {ws:List Way} {x y:Str} {m:Int} (h:Wsum ws x y m):Wsum ws y x m:=by
 induction h with
 | nil x=>exact .nil x
 | @cons x y z l m e _ ih=>rw [Int.add_comm]; exact ih.snoc e.symm
theorem Wsum.pos {ws:List Way} (hp:∀ u ∈ ws,1<=u.2.2) {x y:Str} {m:Int} (h:Wsum ws x y m):0<=m:=by
 induction h with
 | nil x=>exact Int.le_refl _
 | cons e _ ih=>
  obtain ⟨u,hu,_,rfl⟩:=e
  have:=hp u hu
  (first|lia|omega)
def Near (ws:List Way) (ss:List Str) (y:Str) (p:Int × Str):Prop:=(p.2 ∈ ss/\Wsum ws p.2 y p.1)/\∀ s ∈ ss,∀ m,Wsum ws s y m->leP p (m,s)
structure Dij (ws:List Way) (ss:List Str) (S R:Str->Int × Str->Prop):Prop where
 near:∀ y p,S y p->Near ws ss y p
 reach:∀ y p,R y p->p.2 ∈ ss/\Wsum ws p.2 y p.1
 relax:∀ x p y l,S x p->Edge ws x y l->(∃ q,S y q)\/∃ q,R y q/\leP q (p.1 + l,p.2)
 start:∀ s ∈ ss,(∃ q,S s q)\/∃ q,R s q/\leP q (0,s)
theorem Dij.out {ws:List Way} {ss:List Str} {S R:Str->Int × Str->Prop} (h:Dij ws ss S R) (hp:∀ u ∈ ws,1<=u.2.2) {x z:Str} {m:Int} (g:Wsum ws x z m) (hz:∀ q,¬ S z q):∀ p,S x p->∃ y q,R y q/\leP q (p.1 + m,p.2):=by
 induction g with
 | nil x=>intro p hp'; exact absurd hp' (hz p)
 | @cons x y z l m e g ih=>
  intro p hx
  rcases h.relax x p y l hx e with ⟨q,hq⟩ | ⟨q,hq,le⟩
  ·obtain ⟨y',q',h1,h2⟩:=ih hz q hq
   refine ⟨y',q',h1,h2.trans ?_⟩
   have n1:=(h.near y q hq).2 p.2 (h.near x p hx).1.1 (p.1 + l) ((h.near x p hx).1.2.snoc e)
   have:=n1.add (l:=m)
   rw [Int.add_assoc] at this
   exact this
  ·exact ⟨y,q,hq,le.trans (leP.up (by have:=g.pos hp; (first|lia|omega)))⟩
theorem Dij.pick {ws:List Way} {ss:List Str} {S R:Str->Int × Str->Prop} (h:Dij ws ss S R) (hp:∀ u ∈ ws,1<=u.2.2) {y:Str} {p:Int × Str} (hy:R y p) (ny:∀ q,¬ S y q) (least:∀ z q,R z q->leP p q):Near ws ss y p:=by
 refine ⟨h.reach y p hy,fun s hs m g=>?_⟩
 rcases h.start s hs with ⟨q,hq⟩ | ⟨q,hq,le⟩
 ·obtain ⟨z,q',h1,h2⟩:=h.out hp g ny q hq
  refine (least z q' h1).trans (h2.trans ?_)
  have n1:=(h.near s q hq).2 s hs 0 (.nil s)
  have:=(show leP (q.1,q.2) (0,s) from n1).add (l:=m)
  rw [Int.zero_add] at this
  exact this
 ·exact (least s q hq).trans (le.trans (leP.up (g.pos hp)))
theorem Dij.done {ws:List Way} {ss:List Str} {S R:Str->Int × Str->Prop} (h:Dij ws ss S R) (hR:∀ y p,¬ R y p) {r:Str} (hss:ss ≠ []) {ps:List Str} (con:∀ T:Str->Prop,T r->(∀ x y,Adj ws x y->T x->T y)->∀ x ∈ ps,T x)
  (con2:∀ T:Str->Prop,∀ x ∈ ps,T x->(∀ x y,Adj ws x y->T x->T y)->T r) (sub:∀ s ∈ ss,s ∈ ps):∀ x ∈ ps,∃ q,S x q:=by
 have cl:∀ x y,Adj ws x y->(∃ q,S x q)->∃ q,S y q:=fun x y ⟨u,hu,e⟩ ⟨q,hq⟩=>by
  rcases h.relax x q y u.2.2 hq ⟨u,hu,e,rfl⟩ with z | ⟨q',hq',_⟩
  ·exact z
  ·exact absurd hq' (hR _ _)
 obtain ⟨s,hs⟩:=List.exists_mem_of_ne_nil ss hss
 have s0:∃ q,S s q:=by
  rcases h.start s hs with z | ⟨q,hq,_⟩
  ·exact z
  ·exact absurd hq (hR _ _)
 exact con (fun x=>∃ q,S x q) (con2 (fun x=>∃ q,S x q) s (sub s hs) s0 cl) cl
theorem sK_inj {a b:List (Str × V)} (h:sK a=sK b):a=b:=by
 unfold sK at h
 exact List.map_inj_right (fun x y z=>by
  simp only [Prod.mk.injEq,Sum.inr.injEq] at z
  exact Prod.ext z.1 z.2) |>.mp h
theorem sK_putV {nv nv':List (Str × V)} {y:Str} {v:V} (e:putK (sK nv) (Sum.inr y:Key) v=sK nv'):∀ z x,(z,x) ∈ nv' ↔ (z=y/\x=v)\/(z ≠ y/\(z,x) ∈ nv):=by
 intro z x
 by_cases h:y ∈ nv.map (·.1)
 ·have e2:putK (sK nv) (Sum.inr y:Key) v=sK (nv.map fun q=>if q.1=y then (q.1,v) else q):=by
   unfold putK
   have:((sK nv).any fun kv=>decide (kv.1=(Sum.inr y:Key)))=true:=by rw [valV_any,sK_is,decide_eq_true h]
   rw [if_pos this]
   unfold sK
   rw [List.map_map,List.map_map]
   refine List.map_congr_left fun q _=>?_
   by_cases e:q.1=y
   ·simp [e]
   ·have e':¬ (Sum.inr q.1:Key)=Sum.inr y:=fun z=>e (Sum.inr.inj z)
    simp [e,e']
  rw [e2] at e
  rw [<-sK_inj e,List.mem_map]
  constructor
  ·rintro ⟨q,hq,e⟩
   by_cases eq:q.1=y
   ·rw [if_pos eq] at e
    have e1:q.1=z:=congrArg Prod.fst e
    have e3:v=x:=congrArg Prod.snd e
    exact .inl ⟨by rw [<-e1,eq],e3.symm⟩
   ·rw [if_neg eq] at e
    refine .inr ⟨?_,by rw [<-e]; exact hq⟩
    rw [show z=q.1 from (congrArg Prod.fst e).symm]; exact eq
  ·rintro (⟨rfl,rfl⟩ | ⟨h1,h2⟩)
   ·obtain ⟨q,hq,e1⟩:=List.mem_map.mp h
    have e1':q.1=z:=e1
    exact ⟨q,hq,by rw [if_pos e1',e1']⟩
   ·exact ⟨(z,x),h2,by rw [if_neg h1]⟩
 ·rw [sK_new h] at e
  rw [<-sK_inj e,List.mem_append]
  constructor
  ·rintro (h1 | h1)
   ·refine .inr ⟨?_,h1⟩
    rintro rfl
    exact h (List.mem_map.mpr ⟨_,h1,rfl⟩)
   ·simp only [List.mem_singleton,Prod.mk.injEq] at h1
    exact .inl h1
  ·rintro (⟨rfl,rfl⟩ | ⟨_,h2⟩)
   ·exact .inr (by simp)
   ·exact .inl h2
theorem sK_drop (nv:List (Str × V)) (y:Str):dropK (sK nv) (Sum.inr y:Key)=sK (nv.filter fun q=>decide (q.1 ≠ y)):=by
 unfold dropK sK
 rw [List.filter_map]
 congr 1
 refine List.filter_congr fun q _=>?_
 by_cases e:q.1=y
 ·simp [e]
 ·have e':¬ (Sum.inr q.1:Key)=Sum.inr y:=fun z=>e (Sum.inr.inj z)
  simp [e,e']
def NBV (H:Hp) (ps:List Str) (ds:List Addr) (Ed:Str->Str->Int->Prop):Prop:=∀ (i:Nat) (p:Str) (d:Addr) (nv:List (Str × V)),ps[i]? = some p->ds[i]? = some d->Rd H d (.dK (sK nv))->∀ y v,(y,v) ∈ nv->∃ l,v=.int l/\Ed p y l
theorem Rd.inj {H:Hp} {d:Addr} {a b:List (Str × V)} (h:Rd H d (.dK (sK a))) (g:Rd H d (.dK (sK b))):a=b:=by
 rcases h with h | ⟨o,h⟩ <;> rcases g with g | ⟨o',g⟩ <;> have e:=Option.some.inj (h.symm.trans g)
 ·injection e with e; exact sK_inj e
 ·exact nomatch e
 ·exact nomatch e
 ·injection e with _ e
  injection e with e; exact sK_inj e
theorem NBV.put {H:Hp} {ps:List Str} {ds:List Addr} {Ed Ed':Str->Str->Int->Prop} (h:NBV H ps ds Ed) (hn:ps.Nodup) (dn:ds.Nodup) {i:Nat} {p y:Str} {d:Addr} {l:Int} (e1:ps[i]? = some p) (e2:ds[i]? = some d) {nv nv':List (Str × V)} (hd:H d=some (.dK (sK nv)))
  (ep:putK (sK nv) (Sum.inr y:Key) (.int l)=sK nv') (mono:∀ a b m,Ed a b m->Ed' a b m) (new:Ed' p y l):NBV (upd H d (.dK (sK nv'))) ps ds Ed':=by
 intro j q c nw f1 f2 hr z v hz
 by_cases hc:c=d
 ·subst hc
  have ij:i=j:=nd_ix dn e2 f2
  subst ij
  rw [e1] at f1; cases f1
  have:nw=nv':=Rd.inj hr (.inl upd_same)
  subst this
  rcases (sK_putV ep z v).mp hz with ⟨rfl,rfl⟩ | ⟨_,hz'⟩
  ·exact ⟨l,rfl,new⟩
  ·obtain ⟨l',e,ed⟩:=h i _ c nv e1 e2 (.inl hd) z v hz'
   exact ⟨l',e,mono _ _ _ ed⟩
 ·have hr':Rd H c (.dK (sK nw)):=by
   rcases hr with g | ⟨o,g⟩
   ·exact .inl (by rw [upd_ne hc] at g; exact g)
   ·exact .inr ⟨o,by rw [upd_ne hc] at g; exact g⟩
  obtain ⟨l',e,ed⟩:=h j q c nw f1 f2 hr' z v hz
  exact ⟨l',e,mono _ _ _ ed⟩
def spNbrL (K:PySem.W.Frag):Sp:=fun vs H Q _=>∃ (q:Addr) (ps:List Str) (ws:List Way) (r:Str),vs=[.ref q]/\WebOk H q ps ws r /\
 ∀ (H':Hp) (B:Addr) (ds:List Addr),Same H H'->NB H' B ps ds (Adj ws) 128->NBV H' ps ds (Edge ws)->H B=none->(∀ d ∈ ds,H d=none)->Q (.ref B) H'
theorem PI.or {X:Cx} {tg l:Expr} {w1 w2:TI} (h1:PI X tg l w1) (h2:PI X tg l w2):PI X tg l (fun σ H R=>w1 σ H R\/w2 σ H R):=by
 intro pins s σ H R I h
 rcases h with h | h
 ·exact h1 pins s σ H R I h
 ·exact h2 pins s σ H R I h
def PrD (H:Hp) (nv:List (Str × V)) (S:Str->Int × Str->Prop):Prop:=(nv.map (·.1)).Nodup/\(∀ y v,(y,v) ∈ nv->∃ p,PrH H v p/\S y p)/\∀ y p,S y p->∃ v,(y,v) ∈ nv/\PrH H v p
def spNear (K:PySem.W.Frag):Sp:=fun vs H Q _=>∃ (q st:Addr) (ps ss:List Str) (ws:List Way) (r:Str),vs=[.ref q,.ref st]/\WebOk H q ps ws r/\(∀ u ∈ ws,1<=u.2.2)/\(∀ x y l l',Edge ws x y l->Edge ws x y l'->l=l')/\(H st=some (.lst (ss.map V.str))\/H st=some (.tup (ss.map V.str)))/\ss ≠ []/\ss.Nodup/\(∀ s ∈ ss,s ∈ ps) /\
 ∀ (H':Hp) (B:Addr) (nv:List (Str × V)),Same H H'->H B=none->H' B=some (.dK (sK nv))->(nv.map (·.1)).Nodup->(∀ x,x ∈ nv.map (·.1) ↔ x ∈ ps)->(∀ y v,(y,v) ∈ nv->∃ p,PrH H' v p/\Near ws ss y p)->Q (.ref B) H'
theorem sK_valmem {nv:List (Str × V)} {y:Str} {v:V} (h:valV (sK nv) (Sum.inr y:Key)=some v):(y,v) ∈ nv:=by
 unfold valV at h
 cases e:(sK nv).find? (fun kv=>decide (kv.1=(Sum.inr y:Key))) with
 | none=>rw [e] at h; cases h
 | some kv=>
  rw [e] at h
  have h1:=List.find?_some e
  have h2:=List.mem_of_find?_eq_some e
  obtain ⟨q,hq,rfl⟩:=List.mem_map.mp h2
  have e1:q.1=y:=by
   have:(Sum.inr q.1:Key)=Sum.inr y:=by simpa using h1
   exact Sum.inr.inj this
  have e2:q.2=v:=Option.some.inj h
  rw [<-e1,<-e2]
  exact hq
theorem edge_mono {ws:List Way} {i:Nat} {a b:Str} {m:Int} (h:Edge (ws.take i) a b m):Edge (ws.take (i + 1)) a b m:=by
 obtain ⟨u,hu,e⟩:=h
 rw [List.take_add_one]
 exact ⟨u,List.mem_append_left _ hu,e⟩
theorem edge_new {ws:List Way} {i:Nat} {u:Way} (h:ws[i]? = some u):Edge (ws.take (i + 1)) u.1 u.2.1 u.2.2:=by
 rw [List.take_add_one,h]
 exact ⟨u,List.mem_append_right _ (by simp),.inl ⟨rfl,rfl⟩,rfl⟩
theorem PrH.fn {H:Hp} {v:V} {p q:Int × Str} (h:PrH H v p) (g:PrH H v q):p=q:=by
 obtain ⟨t,rfl,e⟩:=h
 obtain ⟨t',e',g⟩:=g
 have:t=t':=by injection e'
 subst this
 have z:=Option.some.inj (e.symm.trans g)
 injection z with z
 simp only [List.cons.injEq,V.int.injEq,V.str.injEq] at z
 exact Prod.ext z.1 z.2.1
theorem NR.same {H H':Hp} {B:Addr} {ps:List Str} {ds:List Addr} {P:Str->Str->Prop} (h:NR H B ps ds P) (s:Same H H'):NR H' B ps ds P:=
 ⟨s _ _ h.top,h.len,h.nd,h.nB,fun i p d e1 e2=>let ⟨nv,a1,a3⟩:=h.inner i p d e1 e2
  ⟨nv,(by rcases a1 with a | ⟨o,a⟩; exact .inl (s _ _ a); exact .inr ⟨o,s _ _ a⟩),a3⟩⟩
theorem NBV.of {H H':Hp} {B:Addr} {ps:List Str} {ds:List Addr} {P:Str->Str->Prop} {Ed:Str->Str->Int->Prop} (h:NBV H ps ds Ed) (nr:NR H B ps ds P) (k:∀ d ∈ ds,∀ nv:List (Str × V),Rd H d (.dK (sK nv))->Rd H' d (.dK (sK nv))):NBV H' ps ds Ed:=by
 intro i p d nv e1 e2 hr y v hy
 obtain ⟨nw,a1,_⟩:=nr.inner i p d e1 e2
 have:=Rd.inj hr (k d (List.mem_of_getElem? e2) nw a1)
 subst this
 exact h i p d nv e1 e2 a1 y v hy
theorem PrD.same {H H':Hp} {nv:List (Str × V)} {S:Str->Int × Str->Prop} (h:PrD H nv S) (s:∀ b xs,H b=some (.tup xs)->H' b=some (.tup xs)):PrD H' nv S:=
 ⟨h.1,fun y v hv=>let ⟨p,a,b⟩:=h.2.1 y v hv; ⟨p,a.same s,b⟩,fun y p hp=>let ⟨v,a,b⟩:=h.2.2 y p hp; ⟨v,a,b.same s⟩⟩
theorem PrD.fn {H:Hp} {nv:List (Str × V)} {S:Str->Int × Str->Prop} (h:PrD H nv S) {y:Str} {p q:Int × Str} (hp:S y p) (hq:S y q):p=q:=by
 obtain ⟨v,a,b⟩:=h.2.2 y p hp
 obtain ⟨w,c,d⟩:=h.2.2 y q hq
 have:=val_uniq h.1 a c
 subst this
 exact b.fn d
theorem PrD.put {H:Hp} {nv nv':List (Str × V)} {S:Str->Int × Str->Prop} {y:Str} {v:V} {p:Int × Str} (h:PrD H nv S) (e:putK (sK nv) (Sum.inr y:Key) v=sK nv') (hv:PrH H v p):PrD H nv' (fun z q=>(z=y/\q=p)\/(z ≠ y/\S z q)):=by
 refine ⟨sK_putN e h.1,fun z x hz=>?_,fun z q hq=>?_⟩
 ·rcases (sK_putV e z x).mp hz with ⟨rfl,rfl⟩ | ⟨n,hz'⟩
  ·exact ⟨p,hv,.inl ⟨rfl,rfl⟩⟩
  ·obtain ⟨q,a,b⟩:=h.2.1 z x hz'
   exact ⟨q,a,.inr ⟨n,b⟩⟩
 ·rcases hq with ⟨rfl,rfl⟩ | ⟨n,hq⟩
  ·exact ⟨v,(sK_putV e _ _).mpr (.inl ⟨rfl,rfl⟩),hv⟩
  ·obtain ⟨x,a,b⟩:=h.2.2 z q hq
   exact ⟨x,(sK_putV e _ _).mpr (.inr ⟨n,a⟩),b⟩
theorem PrD.drop {H:Hp} {nv:List (Str × V)} {S:Str->Int × Str->Prop} (h:PrD H nv S) (y:Str):PrD H (nv.filter fun q=>decide (q.1 ≠ y)) (fun z q=>z ≠ y/\S z q):=by
 refine ⟨nodup_map_filter h.1 _,fun z x hz=>?_,fun z q hq=>?_⟩
 ·obtain ⟨a,b⟩:=List.mem_filter.mp hz
  obtain ⟨q,c,d⟩:=h.2.1 z x a
  exact ⟨q,c,by simpa using b,d⟩
 ·obtain ⟨n,hq⟩:=hq
  obtain ⟨x,a,b⟩:=h.2.2 z q hq
  exact ⟨x,List.mem_filter.mpr ⟨a,by simpa using n⟩,b⟩
structure NI (H H2:Hp) (ps:List Str) (ws:List Way) (B RA SA:Addr) (ds:List Addr) (nvR nvS:List (Str × V)) (S R:Str->Int × Str->Prop):Prop where
 same:Same H H2
 nr:NR H2 B ps ds (Adj ws)
 nbv:NBV H2 ps ds (Edge ws)
 dR:H2 RA=some (.dK (sK nvR))
 dS:H2 SA=some (.dK (sK nvS))
 pR:PrD H2 nvR R
 pS:PrD H2 nvS S
 subR:∀ y ∈ nvR.map (·.1),y ∈ ps
 subS:∀ y ∈ nvS.map (·.1),y ∈ ps
section
variable {H H2 H3:Hp} {ps:List Str} {ws:List Way} {B RA SA:Addr} {ds:List Addr} {nvR nvS:List (Str × V)} {S R:Str->Int × Str->Prop}
theorem NI.grow (h:NI H H2 ps ws B RA SA ds nvR nvS S R) (s:Same H2 H3):NI H H3 ps ws B RA SA ds nvR nvS S R:=
 ⟨h.same.trans s,h.nr.same s,h.nbv.of h.nr fun d _ nv z=>by rcases z with a | ⟨o,a⟩; exact .inl (s _ _ a); exact .inr ⟨o,s _ _ a⟩,s _ _ h.dR,s _ _ h.dS,h.pR.same fun b xs z=>s _ _ z,h.pS.same fun b xs z=>s _ _ z,h.subR,h.subS⟩
theorem NI.lenS (h:NI H H2 ps ws B RA SA ds nvR nvS S R):nvS.length<=ps.length:=by
 have:=len_le_of_sub h.pS.1 h.subS
 rwa [List.length_map] at this
theorem NI.lenR (h:NI H H2 ps ws B RA SA ds nvR nvS S R):nvR.length<=ps.length:=by
 have:=len_le_of_sub h.pR.1 h.subR
 rwa [List.length_map] at this
theorem NI.inS (h:NI H H2 ps ws B RA SA ds nvR nvS S R) {y:Str}:y ∈ nvS.map (·.1) ↔ ∃ q,S y q:=by
 constructor
 ·intro hy
  obtain ⟨⟨z,v⟩,a,b⟩:=List.mem_map.mp hy
  have b':z=y:=b
  subst b'
  obtain ⟨p,_,c⟩:=h.pS.2.1 z v a
  exact ⟨p,c⟩
 ·rintro ⟨q,hq⟩
  obtain ⟨v,a,_⟩:=h.pS.2.2 y q hq
  exact List.mem_map.mpr ⟨_,a,rfl⟩
theorem NI.inR (h:NI H H2 ps ws B RA SA ds nvR nvS S R) {y:Str}:y ∈ nvR.map (·.1) ↔ ∃ q,R y q:=by
 constructor
 ·intro hy
  obtain ⟨⟨z,v⟩,a,b⟩:=List.mem_map.mp hy
  have b':z=y:=b
  subst b'
  obtain ⟨p,_,c⟩:=h.pR.2.1 z v a
  exact ⟨p,c⟩
 ·rintro ⟨q,hq⟩
  obtain ⟨v,a,_⟩:=h.pR.2.2 y q hq
  exact List.mem_map.mpr ⟨_,a,rfl⟩
theorem NI.setR (h:NI H H2 ps ws B RA SA ds nvR nvS S R) (aR:RA ∉ ds/\RA ≠ B/\RA ≠ SA/\H RA=none) {nv':List (Str × V)} {R':Str->Int × Str->Prop} (p':PrD H2 nv' R') (sub:∀ y ∈ nv'.map (·.1),y ∈ ps):NI H (upd H2 RA (.dK (sK nv'))) ps ws B RA SA ds nv' nvS S R':=by
 have tu:∀ b xs,H2 b=some (.tup xs)->(upd H2 RA (.dK (sK nv'))) b=some (.tup xs):=fun b xs z=>by
  rw [upd_ne (ne_of z h.dR (by intro z; cases z))]; exact z
 exact ⟨fun b o z=>by rw [upd_ne (ne_of_none z aR.2.2.2)]; exact h.same _ _ z,h.nr.other aR.1 aR.2.1,h.nbv.of h.nr fun d hd nv z=>z.ne (fun e=>aR.1 (by rw [<-e]; exact hd)),upd_same,by rw [upd_ne (Ne.symm aR.2.2.1)]; exact h.dS,p'.same tu,h.pS.same tu,sub,h.subS⟩
theorem NI.setS (h:NI H H2 ps ws B RA SA ds nvR nvS S R) (aS:SA ∉ ds/\SA ≠ B/\SA ≠ RA/\H SA=none) {nv':List (Str × V)} {S':Str->Int × Str->Prop} (p':PrD H2 nv' S') (sub:∀ y ∈ nv'.map (·.1),y ∈ ps):NI H (upd H2 SA (.dK (sK nv'))) ps ws B RA SA ds nvR nv' S' R:=by
 have tu:∀ b xs,H2 b=some (.tup xs)->(upd H2 SA (.dK (sK nv'))) b=some (.tup xs):=fun b xs z=>by
  rw [upd_ne (ne_of z h.dS (by intro z; cases z))]; exact z
 exact ⟨fun b o z=>by rw [upd_ne (ne_of_none z aS.2.2.2)]; exact h.same _ _ z,h.nr.other aS.1 aS.2.1,h.nbv.of h.nr fun d hd nv z=>z.ne (fun e=>aS.1 (by rw [<-e]; exact hd)),by rw [upd_ne (Ne.symm aS.2.2.1)]; exact h.dR,upd_same,h.pR.same tu,p'.same tu,h.subR,sub⟩
theorem NI.frz (h:NI H H2 ps ws B RA SA ds nvR nvS S R) (aR:RA ∉ ds) (aS:SA ∉ ds) (fr:∀ d ∈ ds,H d=none) {i:Nat} {p:Str} {d:Addr} (e1:ps[i]? = some p) (e2:ds[i]? = some d) {nv:List (Str × V)} {o:Obj} (f:Frozen H2 d (sK nv) o H3) (hP:∀ y,y ∈ nv.map (·.1) ↔ Adj ws p y):NI H H3 ps ws B RA SA ds nvR nvS S R:=by
 have dm:d ∈ ds:=List.mem_of_getElem? e2
 have tu:∀ b xs,H2 b=some (.tup xs)->H3 b=some (.tup xs):=fun b xs z=>by
  rw [f.ne (by
   rintro rfl
   rcases f with ⟨g,_⟩ | ⟨g,_⟩ <;> (rw [z] at g; cases g))]
  exact z
 refine ⟨fun b u z=>by rw [f.ne (ne_of_none z (fr d dm))]; exact h.same _ _ z,h.nr.freeze e1 e2 f hP,h.nbv.of h.nr fun c hc nw z=>?_,by rw [f.ne (fun z=>aR (by rw [z]; exact dm))]; exact h.dR,by rw [f.ne (fun z=>aS (by rw [z]; exact dm))]; exact h.dS,h.pR.same tu,h.pS.same tu,h.subR,h.subS⟩
 by_cases hcd:c=d
 ·subst hcd
  rcases f with ⟨g,e⟩ | ⟨g,e⟩
  ·have:=Rd.inj z (.inl g)
   subst this
   exact .inr ⟨o,by rw [e]; exact upd_same⟩
  ·rw [e]; exact z
 ·exact z.fz f hcd
end
theorem entry_upd_loop:entryFor table "dict.update.loop"=some Builtin.«dict.update.loop»:=entryFor_of_tree (by kernel_rfl)
theorem plain_upd_loop:plainId "dict.update.loop"=true:=by decide +kernel
def RowAt (g0:Heap) (v:Value) (p:Str × V):Prop:=∃ a t u,v=.ref a/\IsTup g0 a #[.str p.1 t,u]/\RelV p.2 u
section
variable {prog:Program} {w:World} {A:Around} {R:Result->Shared->Prop} {g0:Heap} {D it l:Addr} {vs:List Value} {ps:List (Str × V)}
end
section
variable {prog:Program} {w:World} {A:Around} {E:Value->Shared->Prop} {s:Shared}
end
theorem merge_sK:∀ (b a:List (Str × V)),((a ++ b).map (·.1)).Nodup->mergeK (sK a) (sK b)=sK (a ++ b)
 | [],a,_=>by rw [List.append_nil]; rfl
 | q :: b,a,hn=>by
  have nq:q.1 ∉ a.map (·.1):=by
   rw [List.map_append,List.map_cons] at hn
   intro hm
   exact (List.nodup_append.mp hn).2.2 q.1 hm q.1 List.mem_cons_self rfl
  show mergeK (putK (sK a) (Sum.inr q.1) q.2) (sK b)=_
  rw [sK_new nq]
  have:=merge_sK b (a ++ [(q.1,q.2)]) (by rw [List.append_assoc]; exact hn)
  rw [this,List.append_assoc]
  rfl
theorem sep_eq:∀ {ws:List Way},(ws.Pairwise fun u v=>¬ Alike u v)->∀ {u v:Way},u ∈ ws->v ∈ ws->Alike u v->u=v
 | [],_,u,v,hu,_,_=>nomatch hu
 | a :: ws,h,u,v,hu,hv,al=>by
  obtain ⟨h1,h2⟩:=List.pairwise_cons.mp h
  rcases List.mem_cons.mp hu with e1 | hu1
  ·rcases List.mem_cons.mp hv with e2 | hv1
   ·rw [e1,e2]
   ·exact absurd (by rw [<-e1]; exact al) (h1 v hv1)
  ·rcases List.mem_cons.mp hv with e2 | hv1
   ·refine absurd ?_ (h1 u hu1)
    rw [<-e2]
    rcases al with ⟨a1,a2⟩ | ⟨a1,a2⟩
    ·exact .inl ⟨a1.symm,a2.symm⟩
    ·exact .inr ⟨a2.symm,a1.symm⟩
   ·exact sep_eq h2 hu1 hv1 al
theorem edge_uniq {ws:List Way} (h:ws.Pairwise fun u v=>¬ Alike u v) {x y:Str} {l l':Int} (e:Edge ws x y l) (e':Edge ws x y l'):l=l':=by
 obtain ⟨u,hu,a,rfl⟩:=e
 obtain ⟨v,hv,b,rfl⟩:=e'
 have:u=v:=sep_eq h hu hv (by
  rcases a with ⟨a1,a2⟩ | ⟨a1,a2⟩ <;> rcases b with ⟨b1,b2⟩ | ⟨b1,b2⟩
  ·exact .inl ⟨a1.trans b1.symm,a2.trans b2.symm⟩
  ·exact .inr ⟨a1.trans b2.symm,a2.trans b1.symm⟩
  ·exact .inr ⟨a1.trans b2.symm,a2.trans b1.symm⟩
  ·exact .inl ⟨a1.trans b1.symm,a2.trans b2.symm⟩)
 rw [this]
theorem edge_norm {ws ws':List Way} (p:ws'.Perm (ws.map norm)) (x y:Str) (l:Int):Edge ws' x y l ↔ Edge ws x y l:=by
 constructor
 ·rintro ⟨u,hu,h,e⟩
  obtain ⟨v,hv,rfl⟩:=List.mem_map.mp (p.mem_iff.mp hu)
  refine ⟨v,hv,?_,e⟩
  rcases norm_ends v with ⟨e1,e2⟩ | ⟨e1,e2⟩
  ·rw [e1,e2] at h; exact h
  ·rw [e1,e2] at h
   rcases h with ⟨a,b⟩ | ⟨a,b⟩
   ·exact .inr ⟨b,a⟩
   ·exact .inl ⟨b,a⟩
 ·rintro ⟨v,hv,h,e⟩
  refine ⟨norm v,p.mem_iff.mpr (List.mem_map.mpr ⟨v,hv,rfl⟩),?_,e⟩
  rcases norm_ends v with ⟨e1,e2⟩ | ⟨e1,e2⟩
  ·rw [e1,e2]; exact h
  ·rw [e1,e2]
   rcases h with ⟨a,b⟩ | ⟨a,b⟩
   ·exact .inr ⟨b,a⟩
   ·exact .inl ⟨b,a⟩
theorem wsum_iff {ws ws':List Way} (h:∀ x y l,Edge ws' x y l ↔ Edge ws x y l) {x y:Str} {m:Int}:Wsum ws' x y m ↔ Wsum ws x y m:=by
 constructor
 ·intro g
  induction g with
  | nil x=>exact .nil x
  | cons e _ ih=>exact .cons ((h _ _ _).mp e) ih
 ·intro g
  induction g with
  | nil x=>exact .nil x
  | cons e _ ih=>exact .cons ((h _ _ _).mpr e) ih
def Dst (ws:List Way) (x y:Str) (n:Int):Prop:=Wsum ws x y n/\∀ m,Wsum ws x y m->n<=m
theorem Near.dst {ws:List Way} {x y:Str} {p:Int × Str} (h:Near ws [x] y p):p.2=x/\Dst ws x y p.1:=by
 have e:p.2=x:=by simpa using h.1.1
 refine ⟨e,by rw [<-e]; exact h.1.2,fun m g=>(h.2 x (by simp) m g).fst⟩
theorem Dst.uniq {ws:List Way} {x y:Str} {n m:Int} (h:Dst ws x y n) (g:Dst ws x y m):n=m:=Int.le_antisymm (h.2 m g.1) (g.2 n h.1)
theorem Dst.symm {ws:List Way} {x y:Str} {n:Int} (h:Dst ws x y n):Dst ws y x n:=⟨h.1.symm,fun m g=>h.2 m g.symm⟩
inductive WI (ws:List Way) (I:Str->Prop):Str->Str->Int->Prop
 | edge {x y:Str} {l:Int}:Edge ws x y l->WI ws I x y l
 | cons {x y z:Str} {l m:Int}:Edge ws x y l->I y->WI ws I y z m->WI ws I x z (l + m)
theorem WI.pos {ws:List Way} (hp:∀ u ∈ ws,1<=u.2.2) {I:Str->Prop} {x y:Str} {m:Int} (h:WI ws I x y m):0<=m:=by
 induction h with
 | edge e=>obtain ⟨u,hu,_,rfl⟩:=e; have:=hp u hu; (first|lia|omega)
 | cons e _ _ ih=>obtain ⟨u,hu,_,rfl⟩:=e; have:=hp u hu; (first|lia|omega)
theorem WI.ends {ws:List Way} {xs:List Str} (he:∀ u ∈ ws,u.1 ∈ xs/\u.2.1 ∈ xs) {x y:Str} {l:Int} (e:Edge ws x y l):x ∈ xs/\y ∈ xs:=by
 obtain ⟨u,hu,h,_⟩:=e
 obtain ⟨a,b⟩:=he u hu
 rcases h with ⟨rfl,rfl⟩ | ⟨rfl,rfl⟩
 ·exact ⟨a,b⟩
 ·exact ⟨b,a⟩
theorem WI.split {ws:List Way} (hp:∀ u ∈ ws,1<=u.2.2) {I J:Str->Prop} {k:Str} (hJ:∀ z,J z->I z\/z=k) {x y:Str} {m:Int} (h:WI ws J x y m):WI ws I x y m\/∃ m1 m2,WI ws I x k m1/\WI ws I k y m2/\m1 + m2<=m:=by
 induction h with
 | edge e=>exact .inl (.edge e)
 | @cons x a y l m e ha g ih=>
  by_cases hk:a=k
  ·subst hk
   rcases ih with h | ⟨m1,m2,h1,h2,h3⟩
   ·exact .inr ⟨l,m,.edge e,h,Int.le_refl _⟩
   ·have:=h1.pos hp
    exact .inr ⟨l,m2,.edge e,h2,by (first|lia|omega)⟩
  ·have hI:I a:=(hJ a ha).resolve_right hk
   rcases ih with h | ⟨m1,m2,h1,h2,h3⟩
   ·exact .inl (.cons e hI h)
   ·exact .inr ⟨l + m1,m2,.cons e hI h1,h2,by (first|lia|omega)⟩
theorem Wsum.wi {ws:List Way} {xs:List Str} (he:∀ u ∈ ws,u.1 ∈ xs/\u.2.1 ∈ xs) {x y:Str} {m:Int} (h:Wsum ws x y m):(x=y/\m=0)\/WI ws (· ∈ xs) x y m:=by
 induction h with
 | nil x=>exact .inl ⟨rfl,rfl⟩
 | @cons x a y l m e g ih=>
  rcases ih with ⟨rfl,rfl⟩ | h
  ·exact .inr (by rw [Int.add_zero]; exact .edge e)
  ·exact .inr (.cons e (WI.ends he e).2 h)
structure FW (ws:List Way) (xs:List Str) (t:Nat) (M:Str->Str->Option Int):Prop where
 sound:∀ x y n,M x y=some n->Wsum ws x y n
 comp:∀ x y m,WI ws (· ∈ xs.take t) x y m->∃ n,M x y=some n/\n<=m
 diag:∀ x ∈ xs,∃ n,M x x=some n/\n<=0
def Mono (M0 M:Str->Str->Option Int):Prop:=∀ x y n,M0 x y=some n->∃ n',M x y=some n'/\n'<=n
theorem Mono.refl (M:Str->Str->Option Int):Mono M M:=fun _ _ n h=>⟨n,h,Int.le_refl _⟩
theorem Mono.trans {M0 M1 M2:Str->Str->Option Int} (h:Mono M0 M1) (g:Mono M1 M2):Mono M0 M2:=fun x y n e=>by
 obtain ⟨n1,e1,l1⟩:=h x y n e
 obtain ⟨n2,e2,l2⟩:=g x y n1 e1
 exact ⟨n2,e2,by (first|lia|omega)⟩
theorem FW.next {ws:List Way} (hp:∀ u ∈ ws,1<=u.2.2) {xs:List Str} (he:∀ u ∈ ws,u.1 ∈ xs/\u.2.1 ∈ xs) {t:Nat} {k:Str} (hk:xs[t]? = some k) {M0 M:Str->Str->Option Int} (h:FW ws xs t M0) (mo:Mono M0 M) (so:∀ x y n,M x y=some n->Wsum ws x y n)
  (via:∀ x ∈ xs,∀ y ∈ xs,∀ n1 n2,M0 x k=some n1->M0 k y=some n2->∃ n,M x y=some n/\n<=n1 + n2):FW ws xs (t + 1) M:=by
 refine ⟨so,fun x y m g=>?_,fun x hx=>?_⟩
 ·have ex:x ∈ xs/\y ∈ xs:=by
   clear mo so via h
   induction g with
   | edge e=>exact WI.ends he e
   | cons e _ _ ih=>exact ⟨(WI.ends he e).1,ih.2⟩
  rcases g.split hp (I:=(· ∈ xs.take t)) (k:=k) (fun z hz=>by
   rw [List.take_add_one,hk] at hz
   rcases List.mem_append.mp hz with hz | hz
   ·exact .inl hz
   ·exact .inr (by simpa using hz)) with g | ⟨m1,m2,g1,g2,le⟩
  ·obtain ⟨n,e,l⟩:=h.comp x y m g
   obtain ⟨n',e',l'⟩:=mo x y n e
   exact ⟨n',e',by (first|lia|omega)⟩
  ·obtain ⟨n1,e1,l1⟩:=h.comp x k m1 g1
   obtain ⟨n2,e2,l2⟩:=h.comp k y m2 g2
   obtain ⟨n,e,l⟩:=via x ex.1 y ex.2 n1 n2 e1 e2
   exact ⟨n,e,by (first|lia|omega)⟩
 ·obtain ⟨n,e,l⟩:=h.diag x hx
  obtain ⟨n',e',l'⟩:=mo x x n e
  exact ⟨n',e',by (first|lia|omega)⟩
def MD (H:Hp) (A:Addr) (M:Str->Str->Option Int) (c:Nat):Prop:=∃ kvs:List (List Key × V),H A=some (.dT kvs)/\kvs.length<=c/\∀ x y,valV kvs [Sum.inr x,Sum.inr y]=(M x y).map V.int
theorem MD.same {H H':Hp} {A:Addr} {M:Str->Str->Option Int} {c:Nat} (h:MD H A M c) (s:Same H H'):MD H' A M c:=let ⟨kvs,a,b,d⟩:=h; ⟨kvs,s _ _ a,b,d⟩
theorem MD.get {H:Hp} {A t:Addr} {M:Str->Str->Option Int} {c:Nat} (h:MD H A M c) {x y:Str} (ht:H t=some (.tup [.str x,.str y])):DGet H A (.ref t) ((M x y).map V.int):=by
 obtain ⟨kvs,a,_,d⟩:=h
 rw [<-d x y]
 exact DGet.t (k:=[Sum.inr x,Sum.inr y]) a ht
def setM (M:Str->Str->Option Int) (x y:Str) (n:Int):Str->Str->Option Int:=fun a b=>if a=x/\b=y then some n else M a b
def spFars (K:PySem.W.Frag):Sp:=fun vs H Q _=>∃ (q:Addr) (ps:List Str) (ws:List Way) (r x:Str),vs=[.ref q,.str x]/\WebOk H q ps ws r/\(∀ u ∈ ws,1<=u.2.2)/\(∀ x y l l',Edge ws x y l->Edge ws x y l'->l=l')/\x ∈ ps /\
 ∀ (H':Hp) (B:Addr) (nv:List (Str × V)),Same H H'->H B=none->H' B=some (.dK (sK nv))->nv.map (·.1)=ps->(∀ y v,(y,v) ∈ nv->∃ n,v=.int n/\Dst ws x y n)->Q (.ref B) H'
end L2
namespace L2
open PySem PySem.Spec PySem.W PyProof.Rows
def wk (u:Way):List Atm:=[.s u.1,.s u.2.1,.i u.2.2]
theorem way_tupK {H:Hp} {v:V} {u:Way} (h:Dat H v (wayD u)):TupK H (fun i=>decide (i < 2)) v/\keyV H v=wk u:=by
 obtain ⟨w,t,e1,rfl,ht⟩:=dats_way (i:=0) (ws:=[u]) (Dats.cons h .nil) rfl
 cases e1
 refine ⟨⟨t,_,rfl,ht,by simp,fun i y e=>?_⟩,?_⟩
 ·unfold KindV
  match i,e with
  | 0,e=>cases e; simp
  | 1,e=>cases e; simp
  | 2,e=>cases e; simp
  | n + 3,e=>simp at e
 ·show (match H t with | some (.tup ys)=>ys.map vAtm | _=>[])=_
  rw [ht]
  rfl
theorem ways_tupK {H:Hp}:∀ {vs:List V} {ws:List Way},Dats H vs (ws.map wayD)->(∀ v ∈ vs,TupK H (fun i=>decide (i < 2)) v)/\vs.map (keyV H)=ws.map wk
 | _,[],.nil=>⟨(fun v hv=>nomatch hv),rfl⟩
 | _,u :: ws,.cons h r=>by
  obtain ⟨a1,a2⟩:=way_tupK h
  obtain ⟨b1,b2⟩:=ways_tupK r
  refine ⟨fun v hv=>?_,by rw [List.map_cons,List.map_cons,a2,b2]⟩
  rcases List.mem_cons.mp hv with rfl | hv
  ·exact a1
  ·exact b1 v hv
theorem ints_at:∀ {ns:List Int} {us:List Value},Vals (ns.map V.int) us->∀ (i:Nat) (v:Value),us[i]? = some v->∃ n t,ns[i]? = some n/\v=Value.int n t
 | [],_,.nil,i,v,e=>by simp at e
 | n :: ns,_,.cons r1 r2,0,v,e=>by
  obtain ⟨t,rfl⟩:=r1
  simp only [List.getElem?_cons_zero,Option.some.injEq] at e
  exact ⟨n,t,rfl,e.symm⟩
 | n :: ns,_,.cons r1 r2,i + 1,v,e=>by simpa using ints_at r2 i v (by simpa using e)
end L2
namespace L2
open PySem PySem.Spec PyProof.Rows
def penL (a b c:Int):List V:=[.int a,.int b,.int c]
theorem penL_0 (a b c:Int):atI (penL a b c) 0=some (.int a):=rfl
theorem penL_1 (a b c:Int):atI (penL a b c) 1=some (.int b):=rfl
theorem penL_2 (a b c:Int):atI (penL a b c) 2=some (.int c):=rfl
def PnAt (H:Hp) (p:Addr):Prop:=∃ a b c:Int,H p=some (.lst (penL a b c))
theorem PnAt.set {H:Hp} {p:Addr} (a b c:Int):PnAt (upd H p (.lst (penL a b c))) p:=⟨a,b,c,upd_same⟩
theorem PnAt.other {H:Hp} {p D:Addr} {o:HO} (h:PnAt H p) (ne:D ≠ p):PnAt (upd H D o) p:=by
 obtain ⟨a,b,c,e⟩:=h
 exact ⟨a,b,c,by rw [upd_ne ne.symm]; exact e⟩
theorem PnAt.ne {H:Hp} {p q:Addr} (h:PnAt H p) (e:H q=none):q ≠ p:=by
 obtain ⟨a,b,c,h⟩:=h
 intro z; subst z; rw [h] at e; cases e
theorem cons_erase_perm {α:Type}:∀ {ys:List α} {k:Nat} {y:α},ys[k]? = some y->(y :: ys.eraseIdx k).Perm ys
 | [],k,y,e=>by simp at e
 | x :: ys,0,y,e=>by
  simp at e
  subst e
  exact List.Perm.refl _
 | x :: ys,k + 1,y,e=>by
  simp at e
  exact (List.Perm.swap x y _).trans ((cons_erase_perm e).cons x)
theorem map_erase {α β:Type} (f:α->β):∀ (ys:List α) (k:Nat),(ys.map f).eraseIdx k=(ys.eraseIdx k).map f
 | [],k=>by simp
 | x :: ys,0=>rfl
 | x :: ys,k + 1=>by
  show f x :: (ys.map f).eraseIdx k=f x :: (ys.eraseIdx k).map f
  rw [map_erase f ys k]
theorem strs_are:∀ {ss:List Str} {us:List Value},Vals (ss.map V.str) us->StrsAre us ss
 | [],_,.nil=>.nil
 | _ :: _,_,.cons r q=>by
  obtain ⟨t,rfl⟩:=r
  exact .cons _ t (strs_are q)
theorem mt_join {X:Cx}:MtM X "str.join" (fun x vs H Q=>∃ (z:Str) (a:Addr) (ss:List Str),x=.str z/\vs=[.ref a]/\H a=some (.lst (ss.map V.str))/\z.length<=16/\(ss.map (·.length)).sum + ss.length<=1048576/\Q (.str (Txt.join z ss)) H):=by
 intro pins s σ H x vs v us Q I rx rv h
 obtain ⟨z,a,ss,rfl,rfl,hH,hz,hw,q⟩:=h
 obtain ⟨t,rfl⟩:=rx
 obtain ⟨u,rfl,ru⟩:=rv.one
 cases ru
 obtain ⟨_,its,n,r,_,e⟩:=I.lstM hH
 refine join_listW (ys:=ss) ⟨_,e,rfl,n,rfl⟩ (by rw [List.toList_toArray]; exact strs_are r) hz hw fun t' k=>?_
 exact ⟨.str (Txt.join z ss),H,I.tok k,⟨t',rfl⟩,q⟩
theorem join_cps (ss:List Str):(Txt.join (Str.ofString "") ss).cps.toList=(ss.map fun s=>s.cps.toList).flatten:=by
 unfold Txt.join
 rw [PySem.StrLaws.glued_eq_join]
 induction ss with
 | nil=>rfl
 | cons x r ih=>
  cases r with
  | nil=>
   show x.cps.toList=_
   simp
  | cons y r=>
   have e:Str.join (Str.ofString "") (x :: y :: r)=x ++ Str.ofString "" ++ Str.join (Str.ofString "") (y :: r):=rfl
   rw [e,List.map_cons,List.flatten_cons,<-ih]
   show ((x.cps ++ #[]) ++ (Str.join (Str.ofString "") (y :: r)).cps).toList=_
   simp
theorem join_low {ss:List Str} (h:∀ s ∈ ss,s.length=1/\Low s):Low (Txt.join (Str.ofString "") ss)/\(Txt.join (Str.ofString "") ss).length=ss.length/\(ss.map (·.length)).sum=ss.length:=by
 have e:∀ l:List Str,(∀ s ∈ l,s.length=1/\Low s)->((l.map fun s=>s.cps.toList).flatten).length=l.length/\(l.map (·.length)).sum=l.length:=by
  intro l
  induction l with
  | nil=>intro _; exact ⟨rfl,rfl⟩
  | cons x r ih=>
   intro h
   obtain ⟨i1,i2⟩:=ih fun s hs=>h s (List.mem_cons_of_mem _ hs)
   have hx:x.cps.size=1:=(h x (List.mem_cons_self ..)).1
   constructor
   ·rw [List.map_cons,List.flatten_cons,List.length_append,i1,Array.length_toList,hx,List.length_cons]
    (first|lia|omega)
   ·rw [List.map_cons,List.sum_cons,i2,List.length_cons]
    show x.cps.size + r.length=r.length + 1
    (first|lia|omega)
 refine ⟨fun c hc=>?_,?_,(e ss h).2⟩
 ·rw [join_cps] at hc
  obtain ⟨l,hl,hcl⟩:=List.mem_flatten.mp hc
  obtain ⟨s,hs,rfl⟩:=List.mem_map.mp hl
  exact (h s hs).2 c hcl
 ·show (Txt.join (Str.ofString "") ss).cps.size=_
  rw [<-Array.length_toList,join_cps]
  exact (e ss h).1
theorem names_nodup {xs:List Str} {hd:List Nat} {f:Nat->List Nat} (h:∀ i x,xs[i]? = some x->∃ tl,x.cps.toList=hd ++ (f i ++ tl)) (hf:∀ i j,i < j->j < xs.length->∀ tl tl',f i ++ tl ≠ f j ++ tl'):xs.Nodup:=by
 refine List.pairwise_iff_getElem.mpr fun i j hi hj hij e=>?_
 obtain ⟨tl,h1⟩:=h i _ (List.getElem?_eq_getElem hi)
 obtain ⟨tl',h2⟩:=h j _ (List.getElem?_eq_getElem hj)
 rw [e,h2] at h1
 exact hf i j hij hj tl tl' (List.append_cancel_left h1).symm
def ownL (n:Nat) (st sp:Int) (k:Nat):List Nat:=if 26 < n then [97 + ((st + sp * k) % 26).toNat,97 + k / 26] else [97 + ((st + sp * k) % 26).toNat]
theorem own_ne {n:Nat} {st sp:Int} (hn:n<=52) (hs:sp ∈ ([1,3,5,7,9,11,15,17]:List Int)) {i j:Nat} (hij:i < j) (hj:j < n) (tl tl':List Nat):ownL n st sp i ++ tl ≠ ownL n st sp j ++ tl':=by
 have key:((st + sp * i) % 26).toNat=((st + sp * j) % 26).toNat->(j - i) % 26=0:=by
  intro e
  have e2:(st + sp * i) % 26=(st + sp * j) % 26:=by
   have a1:=Int.emod_nonneg (st + sp * i) (show (26:Int) ≠ 0 by decide)
   have a2:=Int.emod_nonneg (st + sp * j) (show (26:Int) ≠ 0 by decide)
   (first|lia|omega)
  have g:Int.gcd 26 sp=1:=by
   simp only [List.mem_cons,List.not_mem_nil,or_false] at hs
   rcases hs with rfl | rfl | rfl | rfl | rfl | rfl | rfl | rfl <;> rfl
  have d:(26:Int) ∣ sp * ((j:Int) - i):=by
   refine Int.dvd_of_emod_eq_zero ?_
   have e3:sp * ((j:Int) - i)=(st + sp * j) - (st + sp * i):=by rw [Int.mul_sub]; (first|lia|omega)
   rw [e3,Int.sub_emod,e2,Int.sub_self]
   rfl
  have d2:(26:Int) ∣ (j:Int) - i:=by
   rw [Int.mul_comm] at d
   have e4:Nat.gcd 26 sp.natAbs=1:=g
   have e5:(26:Nat) ∣ ((j:Int) - i).natAbs * sp.natAbs:=by rw [<-Int.natAbs_mul]; exact Int.natAbs_dvd_natAbs.mpr d
   exact Int.natAbs_dvd_natAbs.mp (Nat.Coprime.dvd_of_dvd_mul_right e4 e5)
  (first|lia|omega)
 intro e
 unfold ownL at e
 by_cases h:26 < n
 ·rw [if_pos h,if_pos h] at e
  simp only [List.cons_append,List.nil_append,List.cons.injEq] at e
  have:=key (by (first|lia|omega))
  (first|lia|omega)
 ·rw [if_neg h,if_neg h] at e
  simp only [List.cons_append,List.nil_append,List.cons.injEq] at e
  have:=key (by (first|lia|omega))
  (first|lia|omega)
theorem letter_atI {i:Int} (h0:0<=i) (h1:i < 26):atI letters.cps.toList i=some (97 + i.toNat):=by
 obtain ⟨n,rfl⟩:∃ n:Nat,i=(n:Int):=⟨i.toNat,by (first|lia|omega)⟩
 have:∀ m:Fin 26,atI letters.cps.toList (m.val:Int)=some (97 + ((m.val:Int)).toNat):=by decide +kernel
 exact this ⟨n,by (first|lia|omega)⟩
theorem len1 {α:Type} {l:List α} (h:l.length=1):∃ a,l=[a]:=List.length_eq_one_iff.mp h
theorem lenS {α:Type} {n:Nat} {l:List α} (h:l.length=n + 1):∃ a r,l=a :: r/\r.length=n:=by
 cases l with
 | nil=>cases h
 | cons a r=>exact ⟨a,r,rfl,Nat.succ.inj h⟩
theorem len2 {α:Type} {l:List α} (h:l.length=2):∃ a b,l=[a,b]:=by
 obtain ⟨a,r,rfl,hr⟩:=lenS h
 obtain ⟨b,rfl⟩:=len1 hr
 exact ⟨a,b,rfl⟩
theorem len3 {α:Type} {l:List α} (h:l.length=3):∃ a b c,l=[a,b,c]:=by
 obtain ⟨a,r,rfl,hr⟩:=lenS h
 obtain ⟨b,c,rfl⟩:=len2 hr
 exact ⟨a,b,c,rfl⟩
theorem len4 {α:Type} {l:List α} (h:l.length=4):∃ a b c d,l=[a,b,c,d]:=by
 obtain ⟨a,r,rfl,hr⟩:=lenS h
 obtain ⟨b,c,d,rfl⟩:=len3 hr
 exact ⟨a,b,c,d,rfl⟩
theorem len5 {α:Type} {l:List α} (h:l.length=5):∃ a b c d e,l=[a,b,c,d,e]:=by
 obtain ⟨a,r,rfl,hr⟩:=lenS h
 obtain ⟨b,c,d,e,rfl⟩:=len4 hr
 exact ⟨a,b,c,d,e,rfl⟩
section
variable {K:Type} [DecidableEq K] [BEq K] [LawfulBEq K]
end
section
variable {prog:Program} {w:World} {A:Around} {R:Result->Shared->Prop} {I:Addr} {fp wr:List Addr} {G:Array GenState->Array GenState->Prop} {n:Nat} {P:Nat->Value->Prop} {St:Nat->Shared->Prop}
variable {K:Type} [DecidableEq K] [BEq K] [LawfulBEq K] {knd:KeyKind prog w K}
end
section
variable {prog:Program} {w:World} {A:Around} {E:Value->Shared->Prop} {s:Shared}
variable {K:Type} [DecidableEq K] [BEq K] [LawfulBEq K] {knd:KeyKind prog w K}
open PySem.F in
end
section
variable {prog:Program} {w:World} {A:Around} {E:Value->Shared->Prop} {s:Shared}
end
section
variable {prog:Program} {w:World} {A:Around} {R:Result->Shared->Prop} {I:Addr} {fp wr:List Addr} {G:Array GenState->Array GenState->Prop} {n:Nat} {P:Nat->Value->Prop} {St:Nat->Shared->Prop}
end
section
variable {prog:Program} {w:World} {A:Around} {E:Value->Shared->Prop} {s:Shared}
end
section
variable {prog:Program} {w:World} {A:Around} {E:Value->Shared->Prop} {s:Shared}
end
section
variable {prog:Program} {w:World} {A:Around} {E:Value->Shared->Prop} {s:Shared}
end
section
variable {prog:Program} {w:World} {A:Around} {E:Value->Shared->Prop} {s:Shared}
end
section
variable {prog:Program} {w:World} {A:Around} {E:Value->Shared->Prop} {s:Shared}
end
end L2
namespace L2
open PySem PySem.W PyProof.Rows
section
variable {prog:Program} {w:World} {A:Around} {E:Value->Shared->Prop} {s:Shared} {κ:SortKind} {lt:Keyed->Keyed->Bool} {a0:Array Keyed}
theorem wpS_narrowP {ρ:Type} {body:Nat->Option ρ × Nat × Nat->StateT SortSt Sem (ForInStep (Option ρ × Nat × Nat))} {n lo hi:Nat} {st:SortSt}
  (hs:∀ x l (R:ForInStep (Option ρ × Nat × Nat)->SortSt->Prop),R (.done (none,l,l)) st->wpS (model prog w) A E s (body x (none,l,l)) R st)
  (hg:∀ x l r (R:ForInStep (Option ρ × Nat × Nat)->SortSt->Prop),l < r->r<=n ->
   (R (.yield (none,l + (r - l) / 2 + 1,r)) st)->(R (.yield (none,l,l + (r - l) / 2)) st)->wpS (model prog w) A E s (body x (none,l,r)) R st)
  (hl:lo<=hi) (hn:hi<=n) :
  wpS (model prog w) A E s (forIn [0:n] (none,lo,hi) body) (fun c st'=>st'=st/\∃ r,c=(none,r,r)/\r<=n) st:=by
 refine wpS_forRange (I:=fun x c st'=>st'=st/\∃ l r,c=(none,l,r)/\l<=r/\r<=n/\r - l<=n - x) ?_ ?_ ⟨rfl,lo,hi,rfl,hl,hn,by (first|lia|omega)⟩
 ·rintro x c st' _ hx ⟨rfl,l,r,rfl,q1,q2,q3⟩
  by_cases hlr:l < r
  ·exact hg _ _ _ _ hlr q2 ⟨rfl,_,r,rfl,by (first|lia|omega),by (first|lia|omega),by (first|lia|omega)⟩ ⟨rfl,l,_,rfl,by (first|lia|omega),by (first|lia|omega),by (first|lia|omega)⟩
  ·have:l=r:=by (first|lia|omega)
   subst this
   exact hs _ _ _ ⟨rfl,l,rfl,q2⟩
 ·rintro c st' ⟨rfl,l,r,rfl,q1,q2,q3⟩
  have:l=r:=by (first|lia|omega)
  subst this
  exact ⟨rfl,l,rfl,q2⟩
theorem wpS_gallopP {left:Bool} {key:Keyed} {arr:Array Keyed} {base n hint:Nat} {Q:Option Nat->SortSt->Prop} {st:SortSt} (an:Ans prog w A s κ lt a0) (hk:kindOf st=κ)
  (hkey:key ∈ a0) (harr:∀ i,i < n->itA arr (base + i) ∈ a0) (hb:base + n<=arr.size) (hh:hint < n)
  (h:∀ k,k<=n->Q (some k) st) :
  wpS (model prog w) A E s (gallopG left key arr base n hint) Q st:=by
 have ha:∀ i (R:Option Bool->SortSt->Prop),i < n->R (some (byd lt left key (itA arr (base + i)))) st->wpS (model prog w) A E s (askG left key arr base i) R st:=
  fun i R hi hr=>wpS_askG an hk hkey (harr i hi) (by (first|lia|omega)) hr
 refine wpS_bind (ha hint _ hh ?_)
 dsimp only
 cases e:byd lt left key (itA arr (base + hint))
 ·simp only [Bool.false_eq_true,if_false]
  refine wpS_bind (wpS_mono (wpS_forRange (I:=fun x c st'=>st'=st/\∃ l o,c=(none,l,o)/\l<=hint/\l < o/\x + 1<=o)
   (Q:=fun c st'=>st'=st/\∃ l o,c=(none,l,o)/\l<=hint/\l < o) ?_ ?_ ⟨rfl,0,1,rfl,by (first|lia|omega),by (first|lia|omega),by (first|lia|omega)⟩) ?_)
  ·rintro x c st' _ hx ⟨rfl,l,o,rfl,q1,q2,q3⟩
   dsimp only
   by_cases ho:o >= hint + 1
   ·rw [if_pos ho]
    exact wpS_pure ⟨rfl,l,o,rfl,q1,q2⟩
   ·rw [if_neg ho]
    refine wpS_bind (ha _ _ (by (first|lia|omega)) ?_)
    cases e2:byd lt left key (itA arr (base + (hint - o)))
    ·simp only [Bool.false_eq_true,if_false]
     exact wpS_pure ⟨rfl,o,_,rfl,by (first|lia|omega),by (first|lia|omega),by (first|lia|omega)⟩
    ·simp only [if_true]
     exact wpS_pure ⟨rfl,l,o,rfl,q1,q2⟩
  ·rintro c st' ⟨rfl,l,o,rfl,q1,q2,q3⟩
   exact ⟨rfl,l,o,rfl,q1,q2⟩
  ·rintro c st' ⟨rfl,l,o,rfl,q1,q2⟩
   dsimp only
   refine wpS_bind (wpS_mono (wpS_narrowP (n:=n) ?_ ?_ ?_ ?_) ?_)
   ·intro x l R hR
    dsimp only
    rw [if_pos (Nat.le_refl _)]
    exact wpS_pure hR
   ·intro x l r R hlr hrn y1 y2
    dsimp only
    rw [if_neg (by (first|lia|omega))]
    refine wpS_bind (ha _ _ (by (first|lia|omega)) ?_)
    cases e3:byd lt left key (itA arr (base + (l + (r - l) / 2)))
    ·exact wpS_pure y2
    ·exact wpS_pure y1
   ·(first|lia|omega)
   ·(first|lia|omega)
   ·rintro c st2 ⟨rfl,r,rfl,z1⟩
    exact wpS_pure (h r z1)
 ·simp only [if_true]
  refine wpS_bind (wpS_mono (wpS_forRange (I:=fun x c st'=>st'=st/\∃ l o,c=(none,l,o)/\hint + l < n/\l < o/\x + 1<=o)
   (Q:=fun c st'=>st'=st/\∃ l o,c=(none,l,o)/\hint + l < n/\l < o) ?_ ?_ ⟨rfl,0,1,rfl,by (first|lia|omega),by (first|lia|omega),by (first|lia|omega)⟩) ?_)
  ·rintro x c st' _ hx ⟨rfl,l,o,rfl,q1,q2,q3⟩
   dsimp only
   by_cases ho:o >= n - hint
   ·rw [if_pos ho]
    exact wpS_pure ⟨rfl,l,o,rfl,q1,q2⟩
   ·rw [if_neg ho]
    refine wpS_bind (ha _ _ (by (first|lia|omega)) ?_)
    cases e2:byd lt left key (itA arr (base + (hint + o)))
    ·simp only [Bool.not_false,if_true]
     exact wpS_pure ⟨rfl,l,o,rfl,q1,q2⟩
    ·simp only [Bool.not_true,Bool.false_eq_true,if_false]
     exact wpS_pure ⟨rfl,o,_,rfl,by (first|lia|omega),by (first|lia|omega),by (first|lia|omega)⟩
  ·rintro c st' ⟨rfl,l,o,rfl,q1,q2,q3⟩
   exact ⟨rfl,l,o,rfl,q1,q2⟩
  ·rintro c st' ⟨rfl,l,o,rfl,q1,q2⟩
   dsimp only
   refine wpS_bind (wpS_mono (wpS_narrowP (n:=n) ?_ ?_ ?_ ?_) ?_)
   ·intro x l R hR
    dsimp only
    rw [if_pos (Nat.le_refl _)]
    exact wpS_pure hR
   ·intro x l r R hlr hrn y1 y2
    dsimp only
    rw [if_neg (by (first|lia|omega))]
    refine wpS_bind (ha _ _ (by (first|lia|omega)) ?_)
    cases e3:byd lt left key (itA arr (base + (l + (r - l) / 2)))
    ·exact wpS_pure y2
    ·exact wpS_pure y1
   ·(first|lia|omega)
   ·(first|lia|omega)
   ·rintro c st2 ⟨rfl,r,rfl,z1⟩
    exact wpS_pure (h r z1)
structure MLp (a b out:Array Keyed) (ia ib:Nat):Prop where
 ml:(out.toList ++ (a.toList.drop ia ++ b.toList.drop ib)).Perm (a.toList ++ b.toList)
 ha:ia + 1 < a.size
 hb:ib < b.size
 sz:out.size=ia + ib
theorem pm_takeA {all out l ra rb:List Keyed} (h:(out ++ ((l ++ ra) ++ rb)).Perm all):((out ++ l) ++ (ra ++ rb)).Perm all:=by
 refine List.Perm.trans ?_ h
 simp
theorem pm_turn {all out ra rb:List Keyed} (h:(out ++ (ra ++ rb)).Perm all):(out ++ (rb ++ ra)).Perm all:=List.Perm.trans (List.Perm.append_left _ List.perm_append_comm) h
theorem pm_takeB {all out l ra rb:List Keyed} (h:(out ++ (ra ++ (l ++ rb))).Perm all):((out ++ l) ++ (ra ++ rb)).Perm all:=pm_turn (pm_takeA (pm_turn h))
theorem ph_turn {all out ra rb:List Keyed} (h:((ra ++ rb) ++ out).Perm all):((rb ++ ra) ++ out).Perm all:=List.Perm.trans (List.Perm.append_right _ List.perm_append_comm) h
theorem ph_takeB {all out l ra rb:List Keyed} (h:((ra ++ (rb ++ l)) ++ out).Perm all):((ra ++ rb) ++ (l ++ out)).Perm all:=by
 refine List.Perm.trans ?_ h
 simp
theorem ph_takeA {all out l ra rb:List Keyed} (h:(((ra ++ l) ++ rb) ++ out).Perm all):((ra ++ rb) ++ (l ++ out)).Perm all:=ph_turn (ph_takeB (ph_turn h))
theorem wpS_mergeLoP {a b:Array Keyed} {Q:Array Keyed->SortSt->Prop} {st:SortSt} (an:Ans prog w A s κ lt a0) (hk:kindOf st=κ)
  (ma:∀ i,i < a.size->itA a i ∈ a0) (mb:∀ i,i < b.size->itA b i ∈ a0) (na:0 < a.size) (nb:0 < b.size)
  (h:∀ (r:Array Keyed) g,r.toList.Perm (a.toList ++ b.toList)->Q r (setGal st g)):wpS (model prog w) A E s (mergeLoG a b) Q st:=by
 have start:((#[itA b 0]:Array Keyed).toList ++ (a.toList.drop 0 ++ b.toList.drop 1)).Perm (a.toList ++ b.toList):=by
  have e:b.toList.drop 0=[itA b 0] ++ b.toList.drop 1:=drop_itA nb
  have m0:([] ++ (a.toList.drop 0 ++ ([itA b 0] ++ b.toList.drop 1))).Perm (a.toList ++ b.toList):=by
   rw [<-e]
   exact List.Perm.refl _
  exact pm_takeB m0
 have lastA:∀ (out:Array Keyed) ia ib,(out.toList ++ (a.toList.drop ia ++ b.toList.drop ib)).Perm (a.toList ++ b.toList)->(out ++ b.extract ib ++ a.extract ia).toList.Perm (a.toList ++ b.toList):=by
  intro out ia ib m
  rw [Array.toList_append,Array.toList_append,extr_drop,extr_drop,List.append_assoc]
  exact pm_turn m
 have doneB:∀ (out:Array Keyed) ia ib,(out.toList ++ (a.toList.drop ia ++ b.toList.drop ib)).Perm (a.toList ++ b.toList)->(out ++ a.extract ia ++ b.extract ib).toList.Perm (a.toList ++ b.toList):=by
  intro out ia ib m
  rw [Array.toList_append,Array.toList_append,extr_drop,extr_drop,List.append_assoc]
  exact m
 have pushB:∀ (out:Array Keyed) ia ib,(out.toList ++ (a.toList.drop ia ++ b.toList.drop ib)).Perm (a.toList ++ b.toList)->ib < b.size->((out.push (itA b ib)).toList ++ (a.toList.drop ia ++ b.toList.drop (ib + 1))).Perm (a.toList ++ b.toList):=by
  intro out ia ib m hib
  rw [Array.toList_push]
  rw [drop_itA hib] at m
  exact pm_takeB (l:=[itA b ib]) m
 have pushA:∀ (out:Array Keyed) ia ib,(out.toList ++ (a.toList.drop ia ++ b.toList.drop ib)).Perm (a.toList ++ b.toList)->ia < a.size->((out.push (itA a ia)).toList ++ (a.toList.drop (ia + 1) ++ b.toList.drop ib)).Perm (a.toList ++ b.toList):=by
  intro out ia ib m hia
  rw [Array.toList_push]
  rw [drop_itA hia] at m
  exact pm_takeA (l:=[itA a ia]) m
 have partA:∀ (out:Array Keyed) ia ib k,(out.toList ++ (a.toList.drop ia ++ b.toList.drop ib)).Perm (a.toList ++ b.toList)->((out ++ a.extract ia (ia + k)).toList ++ (a.toList.drop (ia + k) ++ b.toList.drop ib)).Perm (a.toList ++ b.toList):=by
  intro out ia ib k m
  rw [Array.toList_append]
  rw [drop_part a ia k] at m
  exact pm_takeA m
 have partB:∀ (out:Array Keyed) ia ib k,(out.toList ++ (a.toList.drop ia ++ b.toList.drop ib)).Perm (a.toList ++ b.toList)->((out ++ b.extract ib (ib + k)).toList ++ (a.toList.drop ia ++ b.toList.drop (ib + k))).Perm (a.toList ++ b.toList):=by
  intro out ia ib k m
  rw [Array.toList_append]
  rw [drop_part b ib k] at m
  exact pm_takeB m
 refine wpS_bind (wpS_lift (wpAny_rule ⟨rfl,?_⟩))
 try dsimp -zeta only
 refine wpS_bind (wpS_elemG (i:=0) nb ?_)
 by_cases h1:b.size=1
 ·rw [if_pos (by simp [h1])]
  exact wpS_pure (h _ _ (doneB _ 0 1 start))
 rw [if_neg (by simpa using fun e=>h1 e.symm)]
 by_cases h2:a.size=1
 ·rw [if_pos (by simp [h2])]
  exact wpS_pure (h _ _ (lastA _ 0 1 start))
 rw [if_neg (by simpa using fun e=>h2 (by (first|lia|omega)))]
 refine wpS_bind (wpS_get ?_)
 refine wpS_bind (wpS_mono (wpS_forRange (I:=fun x c st'=>∃ out ia ib g g',c=(none,out,ia,ib,g)/\st'=setGal st g'/\MLp a b out ia ib/\x + 1<=out.size)
  (Q:=fun c st'=>∃ (r:Array Keyed) (g':Nat),c.1=some r/\st'=setGal st g'/\r.toList.Perm (a.toList ++ b.toList)) ?step ?fin ?init) ?post)
 case init=>exact ⟨_,0,1,_,_,rfl,rfl,⟨start,by (first|lia|omega),by (first|lia|omega),rfl⟩,by simp⟩
 case fin=>
  rintro c st' ⟨out,ia,ib,g,g',rfl,rfl,m,hx⟩
  have:=m.ha
  have:=m.hb
  have:=m.sz
  (first|lia|omega)
 case post=>
  rintro ⟨c,rest⟩ st' ⟨r,g',e,rfl,m⟩
  dsimp only at e
  subst e
  exact wpS_pure (h _ _ m)
 case step=>
  rintro x c st' _ hxs ⟨out,ia,ib,g,g',rfl,rfl,m,hx⟩
  try dsimp -zeta only
  refine wpS_bind (wpS_mono (wpS_forRange (I:=fun y c st'=>∃ out ia ib ac bc,c=(none,out,ia,ib,ac,bc)/\st'=setGal st g'/\MLp a b out ia ib/\x + y + 1<=out.size)
   (Q:=fun c st'=>st'=setGal st g'/\((∃ r:Array Keyed,c.1=some r/\r.toList.Perm (a.toList ++ b.toList))\/∃ out ia ib ac bc,c=(none,out,ia,ib,ac,bc)/\MLp a b out ia ib/\x + 2<=out.size)) ?istep ?ifin ?iinit) ?ipost)
  case iinit=>exact ⟨out,ia,ib,0,0,rfl,rfl,m,by (first|lia|omega)⟩
  case ifin=>
   rintro c st' ⟨out,ia,ib,ac,bc,rfl,rfl,m,hx⟩
   have:=m.ha
   have:=m.hb
   have:=m.sz
   (first|lia|omega)
  case istep=>
   rintro y c st' _ hy ⟨out,ia,ib,ac,bc,rfl,rfl,m,hx⟩
   try dsimp -zeta only
   have hia:=m.ha
   have hib:=m.hb
   have hsz:=m.sz
   refine wpS_bind (wpS_elemG hib (wpS_bind (wpS_elemG (by first | (first|lia|omega) | (dsimp only at *; (first|lia|omega))) ?_)))
   refine wpS_bind (wpS_ltG an hk (mb _ hib) (ma _ (by first | (first|lia|omega) | (dsimp only at *; (first|lia|omega)))) ?_)
   try dsimp -zeta only
   refine wpS_iteI (fun e=>?_) (fun e=>?_)
   ·refine wpS_bind (wpS_elemG hib ?_)
    have m2:=pushB out ia ib m.ml hib
    refine wpS_beqI (fun q1=>wpS_pure ⟨rfl,.inl ⟨_,rfl,doneB _ _ _ m2⟩⟩) fun q1=>?_
    ·have mm:MLp a b (out.push (itA b ib)) ia (ib + 1):=⟨m2,hia,by (first|lia|omega),by rw [Array.size_push]; (first|lia|omega)⟩
     refine wpS_iteI (fun _=>wpS_pure ⟨rfl,.inr ⟨_,_,_,_,_,rfl,mm,by rw [Array.size_push]; (first|lia|omega)⟩⟩) (fun _=>wpS_pure ⟨_,_,_,_,_,rfl,rfl,mm,by rw [Array.size_push]; (first|lia|omega)⟩)
   ·refine wpS_bind (wpS_elemG (by (first|lia|omega)) ?_)
    have m2:=pushA out ia ib m.ml (by (first|lia|omega))
    refine wpS_beqI (fun q1=>wpS_pure ⟨rfl,.inl ⟨_,rfl,lastA _ _ _ m2⟩⟩) fun q1=>?_
    ·have mm:MLp a b (out.push (itA a ia)) (ia + 1) ib:=⟨m2,by (first|lia|omega),hib,by rw [Array.size_push]; (first|lia|omega)⟩
     refine wpS_iteI (fun _=>wpS_pure ⟨rfl,.inr ⟨_,_,_,_,_,rfl,mm,by rw [Array.size_push]; (first|lia|omega)⟩⟩) (fun _=>wpS_pure ⟨_,_,_,_,_,rfl,rfl,mm,by rw [Array.size_push]; (first|lia|omega)⟩)
  case ipost=>
   rintro c st' ⟨rfl,hc⟩
   rcases hc with ⟨r,hc,hm⟩ | ⟨out,ia,ib,ac,bc,rfl,m,hx2⟩
   ·obtain ⟨c,rest⟩:=c
    dsimp only at hc
    subst hc
    exact wpS_pure ⟨r,g',rfl,rfl,hm⟩
   ·try dsimp -zeta only
    refine wpS_bind (wpS_lift (wpAny_rule ⟨rfl,?_⟩))
    refine wpS_bind (wpS_mono (wpS_forRange (I:=fun y c st'=>∃ out ia ib g ac bc g',c=(none,out,ia,ib,g,ac,bc)/\st'=setGal st g'/\MLp a b out ia ib/\x + 2<=out.size)
     (Q:=fun c st'=>∃ g',st'=setGal st g'/\((∃ r:Array Keyed,c.1=some r/\r.toList.Perm (a.toList ++ b.toList))\/∃ out ia ib g ac bc,c=(none,out,ia,ib,g,ac,bc)/\MLp a b out ia ib/\x + 2<=out.size)) ?jstep ?jfin ?jinit) ?jpost)
    case jinit=>exact ⟨out,ia,ib,_,ac,bc,g',rfl,rfl,m,hx2⟩
    case jfin=>
     rintro c st' ⟨out,ia,ib,g,ac,bc,g',rfl,rfl,m,hx⟩
     exact ⟨g',rfl,.inr ⟨out,ia,ib,g,ac,bc,rfl,m,hx⟩⟩
    case jpost=>
     rintro c st' ⟨g',rfl,hc⟩
     rcases hc with ⟨r,hc,hm⟩ | ⟨out,ia,ib,g,ac,bc,rfl,m,hx2⟩
     ·obtain ⟨c,rest⟩:=c
      dsimp only at hc
      subst hc
      exact wpS_pure ⟨r,g',rfl,rfl,hm⟩
     ·try dsimp -zeta only
      exact wpS_bind (wpS_modify (wpS_pure ⟨out,ia,ib,_,_,rfl,rfl,m,hx2⟩))
    case jstep=>
     rintro y c st' _ hy ⟨out,ia,ib,g,ac,bc,g',rfl,rfl,m,hx⟩
     try dsimp -zeta only
     have hia:=m.ha
     have hib:=m.hb
     have hsz:=m.sz
     apply dup1
     case main=>
      intro rest
      refine wpS_iteI (fun gg=>?_) (fun gg=>?_)
      ·generalize g - 1=g2
       exact rest g2
      ·exact rest g
     case leaf=>
      intro g2
      refine wpS_bind (wpS_modify ?_)
      refine wpS_bind (wpS_elemG hib ?_)
      refine wpS_bind (wpS_gallopP (left:=false) an hk (mb _ hib) (fun i hi=>ma _ (by first | (first|lia|omega) | (dsimp only at *; (first|lia|omega)))) (by first | (first|lia|omega) | (dsimp only at *; (first|lia|omega))) (by first | (first|lia|omega) | (dsimp only at *; (first|lia|omega))) fun k k1=>?_)
      try dsimp -zeta only
      apply dup2 (fun (out2:Array Keyed) (ia2:Nat)=>(out2.toList ++ (a.toList.drop ia2 ++ b.toList.drop ib)).Perm (a.toList ++ b.toList)/\out2.size=ia2 + ib/\ia2 + 1 < a.size/\x + 2<=out2.size)
      case main=>
       intro rest
       refine wpS_iteI (fun k0=>?_) (fun k0=>?_)
       ·have m2:=partA out ia ib k m.ml
        have z2:(out ++ a.extract ia (ia + k)).size=ia + k + ib:=by
         rw [Array.size_append,Array.size_extract,hsz]
         first | (first|lia|omega) | (dsimp only at *; (first|lia|omega))
        refine wpS_beqI (fun q1=>wpS_pure ⟨_,rfl,.inl ⟨_,rfl,lastA _ _ _ m2⟩⟩) fun q1=>?_
        refine wpS_beqI (fun q2=>wpS_pure ⟨_,rfl,.inl ⟨_,rfl,doneB _ _ _ m2⟩⟩) fun q2=>?_
        obtain ⟨out2,eo⟩:∃ o,o=out ++ a.extract ia (ia + k):=⟨_,rfl⟩
        obtain ⟨ia2,ei⟩:∃ o,o=ia + k:=⟨_,rfl⟩
        rw [<-eo,<-ei] at m2 z2
        rw [<-eo,<-ei]
        exact rest out2 ia2 ⟨m2,z2,by first | (first|lia|omega) | (dsimp only at *; (first|lia|omega)),by first | (first|lia|omega) | (dsimp only at *; (first|lia|omega))⟩
       ·exact rest out ia ⟨m.ml,hsz,hia,hx⟩
      case leaf=>
       rintro out2 ia2 ⟨m2,z2,hia2,hx2'⟩
       refine wpS_bind (wpS_elemG hib ?_)
       have m3:=pushB out2 ia2 ib m2 hib
       have z3:(out2.push (itA b ib)).size=ia2 + (ib + 1):=by rw [Array.size_push]; (first|lia|omega)
       refine wpS_beqI (fun q3=>wpS_pure ⟨_,rfl,.inl ⟨_,rfl,doneB _ _ _ m3⟩⟩) fun q3=>?_
       refine wpS_bind (wpS_elemG (by (first|lia|omega)) ?_)
       refine wpS_bind (wpS_gallopP (left:=true) an hk (ma _ (by (first|lia|omega))) (fun i hi=>mb _ (by (first|lia|omega))) (by (first|lia|omega)) (by (first|lia|omega)) fun l l1=>?_)
       try dsimp -zeta only
       apply dup2 (fun (out3:Array Keyed) (ib2:Nat)=>(out3.toList ++ (a.toList.drop ia2 ++ b.toList.drop ib2)).Perm (a.toList ++ b.toList)/\out3.size=ia2 + ib2/\ib2 < b.size/\ib<=ib2)
       case main=>
        intro rest
        refine wpS_iteI (fun l0=>?_) (fun l0=>?_)
        ·have m4:=partB _ ia2 (ib + 1) l m3
         have z4:(out2.push (itA b ib) ++ b.extract (ib + 1) (ib + 1 + l)).size=ia2 + (ib + 1 + l):=by
          rw [Array.size_append,Array.size_extract,z3]
          (first|lia|omega)
         refine wpS_beqI (fun q1=>wpS_pure ⟨_,rfl,.inl ⟨_,rfl,doneB _ _ _ m4⟩⟩) fun q1=>?_
         obtain ⟨out3,eo3⟩:∃ o,o=out2.push (itA b ib) ++ b.extract (ib + 1) (ib + 1 + l):=⟨_,rfl⟩
         obtain ⟨ib2,ei3⟩:∃ o,o=ib + 1 + l:=⟨_,rfl⟩
         rw [<-eo3,<-ei3] at m4 z4
         rw [<-eo3,<-ei3]
         exact rest out3 ib2 ⟨m4,z4,by (first|lia|omega),by (first|lia|omega)⟩
        ·exact rest _ (ib + 1) ⟨m3,z3,by (first|lia|omega),by (first|lia|omega)⟩
       case leaf=>
        rintro out3 ib2 ⟨m4,z4,hib2,le2⟩
        refine wpS_bind (wpS_elemG (by (first|lia|omega)) ?_)
        have m5:=pushA out3 ia2 ib2 m4 (by (first|lia|omega))
        have z5:(out3.push (itA a ia2)).size=ia2 + 1 + ib2:=by rw [Array.size_push]; (first|lia|omega)
        refine wpS_beqI (fun q5=>wpS_pure ⟨_,rfl,.inl ⟨_,rfl,lastA _ _ _ m5⟩⟩) fun q5=>?_
        have mm:MLp a b (out3.push (itA a ia2)) (ia2 + 1) ib2:=⟨m5,by (first|lia|omega),hib2,z5⟩
        have hx5:x + 2<=(out3.push (itA a ia2)).size:=by (first|lia|omega)
        refine wpS_iteI (fun _=>wpS_pure ⟨_,rfl,.inr ⟨_,_,_,_,_,_,rfl,mm,hx5⟩⟩) (fun _=>wpS_pure ⟨_,_,_,_,_,_,_,rfl,rfl,mm,hx5⟩)
structure MHp (a b out:Array Keyed) (na nb:Nat):Prop where
 mh:((a.toList.take na ++ b.toList.take nb) ++ out.toList.reverse).Perm (a.toList ++ b.toList)
 ha:0 < na
 hb:1 < nb
 la:na<=a.size
 lb:nb<=b.size
 sz:out.size + (na + nb)=a.size + b.size
theorem wpS_mergeHiP {a b:Array Keyed} {Q:Array Keyed->SortSt->Prop} {st:SortSt} (an:Ans prog w A s κ lt a0) (hk:kindOf st=κ)
  (ma:∀ i,i < a.size->itA a i ∈ a0) (mb:∀ i,i < b.size->itA b i ∈ a0) (pa:0 < a.size) (pb:0 < b.size)
  (h:∀ (r:Array Keyed) g,r.toList.Perm (a.toList ++ b.toList)->Q r (setGal st g)):wpS (model prog w) A E s (mergeHiG a b) Q st:=by
 have pushA:∀ (out:Array Keyed) na nb,((a.toList.take na ++ b.toList.take nb) ++ out.toList.reverse).Perm (a.toList ++ b.toList)->0 < na->na<=a.size->((a.toList.take (na - 1) ++ b.toList.take nb) ++ (out.push (itA a (na - 1))).toList.reverse).Perm (a.toList ++ b.toList):=by
  intro out na nb m h0 h1
  rw [Array.toList_push,List.reverse_append]
  obtain ⟨n,rfl⟩:∃ n,na=n + 1:=⟨na - 1,by (first|lia|omega)⟩
  rw [take_itA (by (first|lia|omega))] at m
  exact ph_takeA (l:=[itA a n]) m
 have pushB:∀ (out:Array Keyed) na nb,((a.toList.take na ++ b.toList.take nb) ++ out.toList.reverse).Perm (a.toList ++ b.toList)->0 < nb->nb<=b.size->((a.toList.take na ++ b.toList.take (nb - 1)) ++ (out.push (itA b (nb - 1))).toList.reverse).Perm (a.toList ++ b.toList):=by
  intro out na nb m h0 h1
  rw [Array.toList_push,List.reverse_append]
  obtain ⟨n,rfl⟩:∃ n,nb=n + 1:=⟨nb - 1,by (first|lia|omega)⟩
  rw [take_itA (by (first|lia|omega))] at m
  exact ph_takeB (l:=[itA b n]) m
 have partA:∀ (out:Array Keyed) na nb k,((a.toList.take na ++ b.toList.take nb) ++ out.toList.reverse).Perm (a.toList ++ b.toList)->k<=na->((a.toList.take k ++ b.toList.take nb) ++ (out ++ (a.extract k na).reverse).toList.reverse).Perm (a.toList ++ b.toList):=by
  intro out na nb k m h0
  rw [Array.toList_append,Array.toList_reverse,List.reverse_append,List.reverse_reverse]
  rw [take_part h0] at m
  exact ph_takeA m
 have partB:∀ (out:Array Keyed) na nb k,((a.toList.take na ++ b.toList.take nb) ++ out.toList.reverse).Perm (a.toList ++ b.toList)->k<=nb->((a.toList.take na ++ b.toList.take k) ++ (out ++ (b.extract k nb).reverse).toList.reverse).Perm (a.toList ++ b.toList):=by
  intro out na nb k m h0
  rw [Array.toList_append,Array.toList_reverse,List.reverse_append,List.reverse_reverse]
  rw [take_part h0] at m
  exact ph_takeB m
 have start:((a.toList.take (a.size - 1) ++ b.toList.take b.size) ++ (#[itA a (a.size - 1)]:Array Keyed).toList.reverse).Perm (a.toList ++ b.toList):=by
  refine pushA #[] a.size b.size ?_ pa (Nat.le_refl _)
  rw [List.take_of_length_le (by simp),List.take_of_length_le (by simp)]
  simp
 have firstB:∀ (out:Array Keyed) na nb,((a.toList.take na ++ b.toList.take nb) ++ out.toList.reverse).Perm (a.toList ++ b.toList)->(b.extract 0 nb ++ a.extract 0 na ++ out.reverse).toList.Perm (a.toList ++ b.toList):=by
  intro out na nb m
  rw [Array.toList_append,Array.toList_append,extr_take,extr_take,Array.toList_reverse]
  exact ph_turn m
 have doneA:∀ (out:Array Keyed) na nb,((a.toList.take na ++ b.toList.take nb) ++ out.toList.reverse).Perm (a.toList ++ b.toList)->(a.extract 0 na ++ b.extract 0 nb ++ out.reverse).toList.Perm (a.toList ++ b.toList):=by
  intro out na nb m
  rw [Array.toList_append,Array.toList_append,extr_take,extr_take,Array.toList_reverse]
  exact m
 refine wpS_bind (wpS_lift (wpAny_rule ⟨rfl,?_⟩))
 try dsimp -zeta only
 refine wpS_bind (wpS_elemG (i:=a.size - 1) (by (first|lia|omega)) ?_)
 by_cases h1:a.size - 1=0
 ·rw [if_pos (by simpa using h1)]
  exact wpS_pure (h _ _ (doneA _ _ _ start))
 rw [if_neg (by simpa using h1)]
 by_cases h2:b.size=1
 ·rw [if_pos (by simpa using h2)]
  exact wpS_pure (h _ _ (firstB _ _ _ start))
 rw [if_neg (by simpa using h2)]
 refine wpS_bind (wpS_get ?_)
 refine wpS_bind (wpS_mono (wpS_forRange (I:=fun x c st'=>∃ na nb out g g',c=(none,na,nb,out,g)/\st'=setGal st g'/\MHp a b out na nb/\x + 1<=out.size)
  (Q:=fun c st'=>∃ (r:Array Keyed) (g':Nat),c.1=some r/\st'=setGal st g'/\r.toList.Perm (a.toList ++ b.toList)) ?step ?fin ?init) ?post)
 case init=>exact ⟨_,_,_,_,_,rfl,rfl,⟨start,by (first|lia|omega),by (first|lia|omega),by (first|lia|omega),by (first|lia|omega),by show 1 + _=_; (first|lia|omega)⟩,by simp⟩
 case fin=>
  rintro c st' ⟨na,nb,out,g,g',rfl,rfl,m,hx⟩
  have:=m.ha
  have:=m.hb
  have:=m.sz
  (first|lia|omega)
 case post=>
  rintro ⟨c,rest⟩ st' ⟨r,g',e,rfl,m⟩
  dsimp only at e
  subst e
  exact wpS_pure (h _ _ m)
 case step=>
  rintro x c st' _ hxs ⟨na,nb,out,g,g',rfl,rfl,m,hx⟩
  try dsimp -zeta only
  refine wpS_bind (wpS_mono (wpS_forRange (I:=fun y c st'=>∃ na nb out ac bc,c=(none,na,nb,out,ac,bc)/\st'=setGal st g'/\MHp a b out na nb/\x + y + 1<=out.size)
   (Q:=fun c st'=>st'=setGal st g'/\((∃ r:Array Keyed,c.1=some r/\r.toList.Perm (a.toList ++ b.toList))\/∃ na nb out ac bc,c=(none,na,nb,out,ac,bc)/\MHp a b out na nb/\x + 2<=out.size)) ?istep ?ifin ?iinit) ?ipost)
  case iinit=>exact ⟨na,nb,out,0,0,rfl,rfl,m,by (first|lia|omega)⟩
  case ifin=>
   rintro c st' ⟨na,nb,out,ac,bc,rfl,rfl,m,hx⟩
   have:=m.ha
   have:=m.hb
   have:=m.sz
   (first|lia|omega)
  case istep=>
   rintro y c st' _ hy ⟨na,nb,out,ac,bc,rfl,rfl,m,hx⟩
   try dsimp -zeta only
   have ha:=m.ha
   have hb:=m.hb
   have la:=m.la
   have lb:=m.lb
   have hsz:=m.sz
   refine wpS_bind (wpS_elemG (by first | (first|lia|omega) | (dsimp only at *; (first|lia|omega))) (wpS_bind (wpS_elemG (by first | (first|lia|omega) | (dsimp only at *; (first|lia|omega))) ?_)))
   refine wpS_bind (wpS_ltG an hk (mb _ (by first | (first|lia|omega) | (dsimp only at *; (first|lia|omega)))) (ma _ (by first | (first|lia|omega) | (dsimp only at *; (first|lia|omega)))) ?_)
   try dsimp -zeta only
   refine wpS_iteI (fun e=>?_) (fun e=>?_)
   ·refine wpS_bind (wpS_elemG (by (first|lia|omega)) ?_)
    have m2:=pushA out na nb m.mh ha la
    refine wpS_beqI (fun q1=>wpS_pure ⟨rfl,.inl ⟨_,rfl,doneA _ _ _ m2⟩⟩) fun q1=>?_
    ·have mm:MHp a b (out.push (itA a (na - 1))) (na - 1) nb:=⟨m2,by (first|lia|omega),hb,by (first|lia|omega),lb,by rw [Array.size_push]; (first|lia|omega)⟩
     refine wpS_iteI (fun _=>wpS_pure ⟨rfl,.inr ⟨_,_,_,_,_,rfl,mm,by rw [Array.size_push]; (first|lia|omega)⟩⟩) (fun _=>wpS_pure ⟨_,_,_,_,_,rfl,rfl,mm,by rw [Array.size_push]; (first|lia|omega)⟩)
   ·refine wpS_bind (wpS_elemG (by (first|lia|omega)) ?_)
    have m2:=pushB out na nb m.mh (by (first|lia|omega)) lb
    refine wpS_beqI (fun q1=>wpS_pure ⟨rfl,.inl ⟨_,rfl,firstB _ _ _ m2⟩⟩) fun q1=>?_
    ·have mm:MHp a b (out.push (itA b (nb - 1))) na (nb - 1):=⟨m2,ha,by (first|lia|omega),la,by (first|lia|omega),by rw [Array.size_push]; (first|lia|omega)⟩
     refine wpS_iteI (fun _=>wpS_pure ⟨rfl,.inr ⟨_,_,_,_,_,rfl,mm,by rw [Array.size_push]; (first|lia|omega)⟩⟩) (fun _=>wpS_pure ⟨_,_,_,_,_,rfl,rfl,mm,by rw [Array.size_push]; (first|lia|omega)⟩)
  case ipost=>
   rintro c st' ⟨rfl,hc⟩
   rcases hc with ⟨r,hc,hm⟩ | ⟨na,nb,out,ac,bc,rfl,m,hx2⟩
   ·obtain ⟨c,rest⟩:=c
    dsimp only at hc
    subst hc
    exact wpS_pure ⟨r,g',rfl,rfl,hm⟩
   ·try dsimp -zeta only
    refine wpS_bind (wpS_lift (wpAny_rule ⟨rfl,?_⟩))
    refine wpS_bind (wpS_mono (wpS_forRange (I:=fun y c st'=>∃ na nb out g ac bc g',c=(none,na,nb,out,g,ac,bc)/\st'=setGal st g'/\MHp a b out na nb/\x + 2<=out.size)
     (Q:=fun c st'=>∃ g',st'=setGal st g'/\((∃ r:Array Keyed,c.1=some r/\r.toList.Perm (a.toList ++ b.toList))\/∃ na nb out g ac bc,c=(none,na,nb,out,g,ac,bc)/\MHp a b out na nb/\x + 2<=out.size)) ?jstep ?jfin ?jinit) ?jpost)
    case jinit=>exact ⟨na,nb,out,_,ac,bc,g',rfl,rfl,m,hx2⟩
    case jfin=>
     rintro c st' ⟨na,nb,out,g,ac,bc,g',rfl,rfl,m,hx⟩
     exact ⟨g',rfl,.inr ⟨na,nb,out,g,ac,bc,rfl,m,hx⟩⟩
    case jpost=>
     rintro c st' ⟨g',rfl,hc⟩
     rcases hc with ⟨r,hc,hm⟩ | ⟨na,nb,out,g,ac,bc,rfl,m,hx2⟩
     ·obtain ⟨c,rest⟩:=c
      dsimp only at hc
      subst hc
      exact wpS_pure ⟨r,g',rfl,rfl,hm⟩
     ·try dsimp -zeta only
      exact wpS_bind (wpS_modify (wpS_pure ⟨na,nb,out,_,_,rfl,rfl,m,hx2⟩))
    case jstep=>
     rintro y c st' _ hy ⟨na,nb,out,g,ac,bc,g',rfl,rfl,m,hx⟩
     try dsimp -zeta only
     have ha:=m.ha
     have hb:=m.hb
     have la:=m.la
     have lb:=m.lb
     have hsz:=m.sz
     apply dup1
     case main=>
      intro rest
      refine wpS_iteI (fun gg=>?_) (fun gg=>?_)
      ·generalize g - 1=g2
       exact rest g2
      ·exact rest g
     case leaf=>
      intro g2
      refine wpS_bind (wpS_modify ?_)
      refine wpS_bind (wpS_elemG (by first | (first|lia|omega) | (dsimp only at *; (first|lia|omega))) ?_)
      refine wpS_bind (wpS_gallopP (left:=false) an hk (mb _ (by first | (first|lia|omega) | (dsimp only at *; (first|lia|omega)))) (fun i hi=>ma _ (by first | (first|lia|omega) | (dsimp only at *; (first|lia|omega)))) (by first | (first|lia|omega) | (dsimp only at *; (first|lia|omega))) (by first | (first|lia|omega) | (dsimp only at *; (first|lia|omega))) fun k k1=>?_)
      try dsimp -zeta only
      generalize hac:na - k=ac2
      apply dup2 (fun (out2:Array Keyed) (na2:Nat)=>((a.toList.take na2 ++ b.toList.take nb) ++ out2.toList.reverse).Perm (a.toList ++ b.toList)/\out2.size + (na2 + nb)=a.size + b.size/\0 < na2/\na2<=a.size/\x + 2<=out2.size)
      case main=>
       intro rest
       refine wpS_iteI (fun k0=>?_) (fun k0=>?_)
       ·have m2:=partA out na nb k m.mh k1
        have z2:(out ++ (a.extract k na).reverse).size + (k + nb)=a.size + b.size:=by
         rw [Array.size_append,Array.size_reverse,Array.size_extract]
         (first|lia|omega)
        refine wpS_beqI (fun q1=>wpS_pure ⟨_,rfl,.inl ⟨_,rfl,doneA _ _ _ m2⟩⟩) fun q1=>?_
        obtain ⟨out2,eo⟩:∃ o,o=out ++ (a.extract k na).reverse:=⟨_,rfl⟩
        obtain ⟨na2,ei⟩:∃ o,o=k:=⟨_,rfl⟩
        rw [<-eo] at m2 z2
        rw [<-eo,<-ei]
        rw [<-ei] at m2 z2
        exact rest out2 na2 ⟨m2,z2,by (first|lia|omega),by (first|lia|omega),by (first|lia|omega)⟩
       ·exact rest out na ⟨m.mh,hsz,ha,la,hx⟩
      case leaf=>
       rintro out2 na2 ⟨m2,z2,p1,p2,hx2'⟩
       refine wpS_bind (wpS_elemG (by (first|lia|omega)) ?_)
       have m3:=pushB out2 na2 nb m2 (by (first|lia|omega)) lb
       have z3:(out2.push (itA b (nb - 1))).size + (na2 + (nb - 1))=a.size + b.size:=by rw [Array.size_push]; (first|lia|omega)
       refine wpS_beqI (fun q3=>wpS_pure ⟨_,rfl,.inl ⟨_,rfl,firstB _ _ _ m3⟩⟩) fun q3=>?_
       refine wpS_bind (wpS_elemG (by (first|lia|omega)) ?_)
       refine wpS_bind (wpS_gallopP (left:=true) an hk (ma _ (by (first|lia|omega))) (fun i hi=>mb _ (by (first|lia|omega))) (by (first|lia|omega)) (by (first|lia|omega)) fun l l1=>?_)
       try dsimp -zeta only
       generalize hbc:nb - 1 - l=bc2
       apply dup2 (fun (out3:Array Keyed) (nb2:Nat)=>((a.toList.take na2 ++ b.toList.take nb2) ++ out3.toList.reverse).Perm (a.toList ++ b.toList)/\out3.size + (na2 + nb2)=a.size + b.size/\1 < nb2/\nb2<=b.size/\x + 2<=out3.size)
       case main=>
        intro rest
        refine wpS_iteI (fun l0=>?_) (fun l0=>?_)
        ·have m4:=partB _ na2 (nb - 1) l m3 l1
         have z4:(out2.push (itA b (nb - 1)) ++ (b.extract l (nb - 1)).reverse).size + (na2 + l)=a.size + b.size:=by
          rw [Array.size_append,Array.size_reverse,Array.size_extract]
          (first|lia|omega)
         refine wpS_beqI (fun q1=>wpS_pure ⟨_,rfl,.inl ⟨_,rfl,firstB _ _ _ m4⟩⟩) fun q1=>?_
         refine wpS_beqI (fun q2=>wpS_pure ⟨_,rfl,.inl ⟨_,rfl,doneA _ _ _ m4⟩⟩) fun q2=>?_
         obtain ⟨out3,eo3⟩:∃ o,o=out2.push (itA b (nb - 1)) ++ (b.extract l (nb - 1)).reverse:=⟨_,rfl⟩
         obtain ⟨nb2,ei3⟩:∃ o,o=l:=⟨_,rfl⟩
         rw [<-eo3] at m4 z4
         rw [<-eo3,<-ei3]
         rw [<-ei3] at m4 z4
         exact rest out3 nb2 ⟨m4,z4,by (first|lia|omega),by (first|lia|omega),by (first|lia|omega)⟩
        ·exact rest _ (nb - 1) ⟨m3,z3,by (first|lia|omega),by (first|lia|omega),by rw [Array.size_push]; (first|lia|omega)⟩
       case leaf=>
        rintro out3 nb2 ⟨m4,z4,p3,p4,hx3⟩
        refine wpS_bind (wpS_elemG (by (first|lia|omega)) ?_)
        have m5:=pushA out3 na2 nb2 m4 p1 p2
        have z5:(out3.push (itA a (na2 - 1))).size + (na2 - 1 + nb2)=a.size + b.size:=by rw [Array.size_push]; (first|lia|omega)
        refine wpS_beqI (fun q5=>wpS_pure ⟨_,rfl,.inl ⟨_,rfl,doneA _ _ _ m5⟩⟩) fun q5=>?_
        have mm:MHp a b (out3.push (itA a (na2 - 1))) (na2 - 1) nb2:=⟨m5,by (first|lia|omega),p3,by (first|lia|omega),p4,z5⟩
        have hx5:x + 2<=(out3.push (itA a (na2 - 1))).size:=by rw [Array.size_push]; (first|lia|omega)
        refine wpS_iteI (fun _=>wpS_pure ⟨_,rfl,.inr ⟨_,_,_,_,_,_,rfl,mm,hx5⟩⟩) (fun _=>wpS_pure ⟨_,_,_,_,_,_,_,rfl,rfl,mm,hx5⟩)
theorem wpS_countRunP {lo nrem:Nat} {Q:Option Nat->SortSt->Prop} {st:SortSt} (an:Ans prog w A s κ lt a0) (hk:kindOf st=κ) (hp:(arrOf st).Perm a0) (hn:lo + nrem<=a0.size) (h1:1<=nrem)
  (h:∀ m ys,Kp (arrOf st) ys lo->1<=m->m<=nrem->Q (some m) (setArr st ys)):wpS (model prog w) A E s (countRun' lo nrem) Q st:=by
 have hz:=hp.size_eq
 refine wpS_bind (wpS_mono (wpS_upG (f:=fun n=>lt (itA (arrOf st) (lo + n)) (itA (arrOf st) (lo + n - 1))) h1 ?_) ?_)
 ·intro x n R n1 n2 y1 y2
  dsimp only
  refine wpS_bind (wpS_ltAtG an hk hp (by (first|lia|omega)) (by (first|lia|omega)) ?_)
  dsimp only
  cases e:lt (itA (arrOf st) (lo + n)) (itA (arrOf st) (lo + n - 1))
  ·exact wpS_pure (y2 e)
  ·exact wpS_pure (y1 e)
 rintro c st' ⟨rfl,n,rfl,n1,n2,q,hor⟩
 dsimp only
 by_cases hnn:n=nrem
 ·rw [if_pos (by simpa using hnn)]
  exact wpS_pure (h n _ (Kp.refl _ _) n1 n2)
 rw [if_neg (by simpa using hnn)]
 by_cases hgt:n > 1
 case' pos=>
  rw [if_pos hgt]
  refine wpS_bind (wpS_ltAtG an hk hp (by (first|lia|omega)) (by (first|lia|omega)) ?_)
  dsimp only
  cases hrose:lt (itA (arrOf st') lo) (itA (arrOf st') (lo + n - 1))
  case' true=>
   simp only [if_true]
   exact wpS_pure (h n _ (Kp.refl _ _) n1 n2)
  case' false=>
   simp only [Bool.false_eq_true,if_false]
   refine wpS_bind (wpS_revG ?_)
   have kp:Kp (arrOf st') (mirror (arrOf st') lo (lo + n) ((lo + n - lo) / 2)) lo:=(Kp.refl _ _).mirror (by (first|lia|omega)) (Nat.le_refl _)
   obtain ⟨ys,ey⟩:∃ ys,ys=mirror (arrOf st') lo (lo + n) ((lo + n - lo) / 2):=⟨_,rfl⟩
   rw [<-ey] at kp
   show wpS (model prog w) A E s _ Q (setArr st' (mirror (arrOf st') lo (lo + n) ((lo + n - lo) / 2)))
   rw [<-ey]
 case' neg=>
  rw [if_neg hgt]
  obtain ⟨ys,ey⟩:∃ ys,ys=arrOf st':=⟨_,rfl⟩
  have kp:Kp (arrOf st') ys lo:=by rw [ey]; exact Kp.refl _ _
  show wpS (model prog w) A E s _ Q (setArr st' (arrOf st'))
  rw [<-ey]
 all_goals
  refine wpS_bind (wpS_lift (wpAny_rule ⟨rfl,?_⟩))
  refine wpS_bind (wpS_mono (wpS_forRange (I:=fun x c st''=>∃ neq ys,c=(none,x,neq)/\st''=setArr st' ys/\Kp (arrOf st') ys lo/\neq + 1<=x)
   (Q:=fun c st''=>∃ m neq ys,c=(none,m,neq)/\st''=setArr st' ys/\Kp (arrOf st') ys lo/\n + 1<=m/\m<=nrem/\neq + 1<=m) ?dstep ?dfin ?dinit) ?dpost)
  case dinit=>exact ⟨0,ys,rfl,rfl,kp,by (first|lia|omega)⟩
  case dfin=>
   rintro c st'' ⟨neq,ys,rfl,rfl,kp,a1⟩
   have e:max (n + 1) nrem=nrem:=by (first|lia|omega)
   rw [e] at a1 ⊢
   exact ⟨nrem,neq,ys,rfl,rfl,kp,by (first|lia|omega),Nat.le_refl _,a1⟩
  case dstep=>
   rintro x c st'' x1 x2 ⟨neq,ys,rfl,rfl,kp,a1⟩
   dsimp only
   have hzy:=kp.size
   have hpy:(arrOf (setArr st' ys)).Perm a0:=kp.1.trans hp
   refine wpS_bind (wpS_ltAtG (st:=setArr st' ys) an hk hpy (by (first|lia|omega)) (by (first|lia|omega)) ?_)
   dsimp only
   cases hless:lt (itA ys (lo + x)) (itA ys (lo + x - 1))
   ·simp only [Bool.false_eq_true,if_false]
    refine wpS_bind (wpS_ltAtG (st:=setArr st' ys) an hk hpy (by (first|lia|omega)) (by (first|lia|omega)) ?_)
    dsimp only
    cases hlarger:lt (itA ys (lo + x - 1)) (itA ys (lo + x))
    ·simp only [Bool.false_eq_true,if_false]
     exact wpS_pure ⟨neq + 1,ys,rfl,rfl,kp,by (first|lia|omega)⟩
    ·simp only [if_true]
     exact wpS_pure ⟨x,neq,ys,rfl,rfl,kp,x1,by (first|lia|omega),a1⟩
   ·simp only [if_true]
    by_cases hq:neq > 0
    ·rw [if_pos hq]
     exact wpS_bind (wpS_revG (wpS_pure ⟨0,_,rfl,rfl,kp.mirror (by (first|lia|omega)) (by (first|lia|omega)),by (first|lia|omega)⟩))
    ·rw [if_neg hq]
     exact wpS_pure ⟨0,ys,rfl,rfl,kp,by (first|lia|omega)⟩
  case dpost=>
   rintro c st'' ⟨m,neq,zs,rfl,rfl,kz,m1,m2,a1⟩
   dsimp only
   have hzz:=kz.size
   have last:∀ us,Kp (arrOf st') us lo->∀ (vs:Array Keyed),Kp (arrOf st') vs lo->∀ n',m<=n'->n'<=nrem->Q (some n') (setArr st' vs):=fun us ku vs kv n' b1 b2=>h n' vs kv (by (first|lia|omega)) b2
   by_cases hq:neq > 0
   case' pos=>
    rw [if_pos hq]
    refine wpS_bind (wpS_revG ?_)
    have kz':Kp (arrOf st') (mirror zs (lo + m - (neq + 1)) (lo + m) ((lo + m - (lo + m - (neq + 1))) / 2)) lo:=kz.mirror (by (first|lia|omega)) (by (first|lia|omega))
    obtain ⟨us,eu⟩:∃ us,us=mirror zs (lo + m - (neq + 1)) (lo + m) ((lo + m - (lo + m - (neq + 1))) / 2):=⟨_,rfl⟩
    rw [<-eu] at kz'
    show wpS (model prog w) A E s _ Q (setArr st' (mirror zs (lo + m - (neq + 1)) (lo + m) ((lo + m - (lo + m - (neq + 1))) / 2)))
    rw [<-eu]
   case' neg=>
    rw [if_neg hq]
    obtain ⟨us,eu⟩:∃ us,us=zs:=⟨_,rfl⟩
    have kz':Kp (arrOf st') us lo:=by rw [eu]; exact kz
    rw [<-eu]
   all_goals
    have hzu:=kz'.size
    refine wpS_bind (wpS_revG ?_)
    show wpS (model prog w) A E s _ Q (setArr st' (mirror us lo (lo + m) ((lo + m - lo) / 2)))
    have kv:Kp (arrOf st') (mirror us lo (lo + m) ((lo + m - lo) / 2)) lo:=kz'.mirror (by (first|lia|omega)) (Nat.le_refl _)
    obtain ⟨vs,ev⟩:∃ vs,vs=mirror us lo (lo + m) ((lo + m - lo) / 2):=⟨_,rfl⟩
    rw [<-ev] at kv
    rw [<-ev]
    have hzv:=kv.size
    refine wpS_bind (wpS_mono (wpS_upG (f:=fun n=>lt (itA vs (lo + n)) (itA vs (lo + n - 1))) m2 ?_) ?_)
    ·intro x n R n1 n2 y1 y2
     dsimp only
     refine wpS_bind (wpS_ltAtG (st:=setArr st' vs) an hk (kv.1.trans hp) (by (first|lia|omega)) (by (first|lia|omega)) ?_)
     dsimp only
     cases e:lt (itA vs (lo + n)) (itA vs (lo + n - 1))
     ·exact wpS_pure (y2 e)
     ·exact wpS_pure (y1 e)
    rintro c st3 ⟨rfl,n',rfl,b1,b2,b3,_⟩
    exact wpS_pure (last us kz' vs kv n' b1 b2)
theorem wpS_binarySortP {lo n ok:Nat} {Q:Bool->SortSt->Prop} {st:SortSt} (an:Ans prog w A s κ lt a0) (hk:kindOf st=κ) (hp:(arrOf st).Perm a0) (hn:lo + n<=a0.size) (h1:1<=ok) (hok:ok<=n)
  (h:∀ ys,Kp (arrOf st) ys lo->Q true (setArr st ys)):wpS (model prog w) A E s (binarySort' lo n ok) Q st:=by
 have hz:=hp.size_eq
 refine wpS_bind (wpS_mono (wpS_forRange (I:=fun k c st'=>c=(none,())/\∃ ys,st'=setArr st ys/\Kp (arrOf st) ys lo)
  (Q:=fun c st'=>c=(none,())/\∃ ys,st'=setArr st ys/\Kp (arrOf st) ys lo) ?step ?fin ?init) ?post)
 case init=>exact ⟨rfl,arrOf st,rfl,Kp.refl _ _⟩
 case fin=>
  rintro c st' ⟨rfl,ys,rfl,kp⟩
  exact ⟨rfl,ys,rfl,kp⟩
 case post=>
  rintro c st' ⟨rfl,ys,rfl,kp⟩
  exact wpS_pure (h ys kp)
 case step=>
  rintro k c st' k1 k2 ⟨rfl,ys,rfl,kp⟩
  dsimp only
  have hzy:=kp.size
  have hpy:(arrOf (setArr st ys)).Perm a0:=kp.1.trans hp
  refine wpS_bind (wpS_mono (wpS_narrowP (n:=k) ?_ ?_ (Nat.zero_le _) (Nat.le_refl _)) ?_)
  ·intro x l R hR
   dsimp only
   rw [if_pos (Nat.le_refl _)]
   exact wpS_pure hR
  ·intro x l r R hlr hrk y1 y2
   dsimp only
   rw [if_neg (by (first|lia|omega)),show (l + r) / 2=l + (r - l) / 2 by (first|lia|omega)]
   refine wpS_bind (wpS_ltAtG (st:=setArr st ys) an hk hpy (by (first|lia|omega)) (by (first|lia|omega)) ?_)
   dsimp only
   cases e:lt (itA ys (lo + k)) (itA ys (lo + (l + (r - l) / 2)))
   ·exact wpS_pure y1
   ·exact wpS_pure y2
  ·rintro c st2 ⟨rfl,r,rfl,r1⟩
   refine wpS_bind ?_
   rw [show (sortPriv% PySem.Builtin.moveDown)=moveDown' from rfl,moveDown'_eq]
   exact wpS_modify (wpS_pure ⟨rfl,bubble ys (lo + k) (lo + k - (lo + r)),rfl,kp.bubble (by (first|lia|omega)) (by (first|lia|omega))⟩)
theorem wpS_mergeAtP {st:SortSt} {Q:Bool->SortSt->Prop} {l1 l2:List (Nat × Nat × Nat)} {sa na p1 sb nb p2:Nat} (an:Ans prog w A s κ lt a0) (hk:kindOf st=κ) (hp:(arrOf st).Perm a0) (hfa:failedOf st=none)
  (hl:(pendingOf st).toList=l1 ++ (sa,na,p1) :: (sb,nb,p2) :: l2) (eb:sb=sa + na) (ha:1<=na) (hb:1<=nb) (hz:sb + nb<=a0.size)
  (h:∀ ys pe g,ys.Perm a0->(∀ k,(k < sa\/sb + nb<=k)->itA ys k=itA (arrOf st) k)->pe.toList=l1 ++ (sa,na + nb,p1) :: l2->Q true (SortSt.mk' (kindOf st) ys pe g none)) :
  wpS (model prog w) A E s (mergeAt' l1.length) Q st:=by
 have hzx:=hp.size_eq
 have mem:∀ i,i < a0.size->itA (arrOf st) i ∈ a0:=fun i hi=>(Array.Perm.mem_iff hp).mp (itA_mem (by (first|lia|omega)))
 have g1:(pendingOf st)[l1.length]? = some (sa,na,p1):=by
  rw [<-Array.getElem?_toList,hl]
  simp
 have g2:(pendingOf st)[l1.length + 1]? = some (sb,nb,p2):=by
  rw [<-Array.getElem?_toList,hl]
  simp
 have pe:(((pendingOf st).setIfInBounds l1.length (sa,na + nb,p1)).eraseIdxIfInBounds (l1.length + 1)).toList=l1 ++ (sa,na + nb,p1) :: l2:=by
  rw [Array.toList_eraseIdxIfInBounds,Array.toList_setIfInBounds,hl]
  simp [List.eraseIdx_append]
  intro z
  (first|lia|omega)
 refine wpS_bind (wpS_get ?_)
 have e2:((pendingOf st)[l1.length]?,(pendingOf st)[l1.length + 1]?)=(some (sa,na,p1),some (sb,nb,p2)):=by rw [g1,g2]
 dsimp only
 rw [show ((sortPriv% PySem.Builtin.SortState.pending) st)[l1.length]? = some (sa,na,p1) from g1,show ((sortPriv% PySem.Builtin.SortState.pending) st)[l1.length + 1]? = some (sb,nb,p2) from g2]
 dsimp only
 refine wpS_bind (wpS_set ?_)
 refine wpS_bind (wpS_elemG (by show sb < (arrOf st).size; (first|lia|omega)) ?_)
 refine wpS_bind (wpS_gallopP (left:=false) an hk (mem _ (by (first|lia|omega))) (fun i hi=>mem _ (by (first|lia|omega))) (by show _<=(arrOf st).size; (first|lia|omega)) (by (first|lia|omega)) fun k k1=>?_)
 dsimp only
 by_cases q1:na - k=0
 ·rw [if_pos (by simpa using q1)]
  refine wpS_pure ?_
  have e:=hfa
  have fin:=h (arrOf st) _ (gallopOf st) hp (fun _ _=>rfl) pe
  rw [<-hfa] at fin
  exact fin
 rw [if_neg (by simpa using q1)]
 refine wpS_bind (wpS_elemG (by show _ < (arrOf st).size; (first|lia|omega)) ?_)
 have el:sa + k + (na - k) - 1=sa + na - 1:=by (first|lia|omega)
 rw [el]
 refine wpS_bind (wpS_gallopP (left:=true) an hk (mem _ (by (first|lia|omega))) (fun i hi=>mem _ (by (first|lia|omega))) (by show _<=(arrOf st).size; (first|lia|omega)) (by (first|lia|omega)) fun m m1=>?_)
 dsimp only
 by_cases q2:m=0
 ·rw [if_pos (by simpa using q2)]
  refine wpS_pure ?_
  have fin:=h (arrOf st) _ (gallopOf st) hp (fun _ _=>rfl) pe
  rw [<-hfa] at fin
  exact fin
 rw [if_neg (by simpa using q2)]
 have zx:((arrOf st).extract (sa + k) sb).size=na - k:=by rw [Array.size_extract]; (first|lia|omega)
 have zy:((arrOf st).extract sb (sb + m)).size=m:=by rw [Array.size_extract]; (first|lia|omega)
 have ix:∀ i,i < na - k->itA ((arrOf st).extract (sa + k) sb) i=itA (arrOf st) (sa + k + i):=fun i hi=>itA_extract (by (first|lia|omega)) (by (first|lia|omega))
 have iy:∀ i,i < m->itA ((arrOf st).extract sb (sb + m)) i=itA (arrOf st) (sb + i):=fun i hi=>itA_extract (by (first|lia|omega)) (by (first|lia|omega))
 have fin:∀ (r:Array Keyed) (g:Nat),r.toList.Perm (((arrOf st).extract (sa + k) sb).toList ++ ((arrOf st).extract sb (sb + m)).toList) ->
   Q true (SortSt.mk' (kindOf st) (List.foldl (fun a x=>a.setIfInBounds (sa + k + x.snd) x.fst) (arrOf st) r.toList.zipIdx) (((pendingOf st).setIfInBounds l1.length (sa,na + nb,p1)).eraseIdxIfInBounds (l1.length + 1)) g none):=by
  intro r g mr
  have rl:r.toList.length=na - k + m:=by
   rw [mr.length_eq,List.length_append,Array.length_toList,Array.length_toList,zx,zy]
  have pb:=put_back (sa + k) r.toList 0 (arrOf st) (by (first|lia|omega))
  rw [Nat.add_zero] at pb
  have l1':((arrOf st).toList.take (sa + k)).length=sa + k:=by rw [List.length_take,Array.length_toList]; (first|lia|omega)
  obtain ⟨zs,ez⟩:∃ zs,zs=List.foldl (fun a x=>a.setIfInBounds (sa + k + x.snd) x.fst) (arrOf st) r.toList.zipIdx:=⟨_,rfl⟩
  rw [<-ez] at pb ⊢
  have zlow:∀ i,i < sa + k->itA zs i=itA (arrOf st) i:=fun i hi=>by
   rw [itA_list,itA_list,pb,List.append_assoc,getD_app1 (by (first|lia|omega)),List.getD_eq_getElem?_getD,List.getElem?_take_of_lt hi,List.getD_eq_getElem?_getD]
  have zhigh:∀ i,sb + m<=i->itA zs i=itA (arrOf st) i:=fun i hi=>by
   rw [itA_list,itA_list,pb,getD_app2 (by rw [List.length_append]; (first|lia|omega)),List.getD_eq_getElem?_getD,List.getElem?_drop,List.getD_eq_getElem?_getD]
   congr 2
   rw [List.length_append]
   (first|lia|omega)
  refine h zs _ g ?_ ?_ pe
  ·refine Array.Perm.trans (Array.perm_iff_toList_perm.mpr ?_) hp
   rw [pb]
   have e1:=take_part (xs:=arrOf st) (i:=sa + k) (j:=sb) (by (first|lia|omega))
   have e2:=take_part (xs:=arrOf st) (i:=sb) (j:=sb + m) (by (first|lia|omega))
   have e3:=List.take_append_drop (sb + m) (arrOf st).toList
   rw [e2,e1] at e3
   rw [rl,show sa + k + (na - k + m)=sb + m by (first|lia|omega)]
   conv=>rhs; rw [<-e3]
   rw [List.append_assoc ((arrOf st).toList.take (sa + k)) ((arrOf st).extract (sa + k) sb).toList]
   exact List.Perm.append_right _ (List.Perm.append_left _ mr)
  ·intro i hi
   rcases hi with hi | hi
   ·exact zlow i (by (first|lia|omega))
   ·exact zhigh i (by (first|lia|omega))
 have mx:∀ i,i < ((arrOf st).extract (sa + k) sb).size->itA ((arrOf st).extract (sa + k) sb) i ∈ a0:=fun i hi=>by rw [ix i (by (first|lia|omega))]; exact mem _ (by (first|lia|omega))
 have my:∀ i,i < ((arrOf st).extract sb (sb + m)).size->itA ((arrOf st).extract sb (sb + m)) i ∈ a0:=fun i hi=>by rw [iy i (by (first|lia|omega))]; exact mem _ (by (first|lia|omega))
 by_cases q3:na - k<=m
 ·rw [if_pos q3]
  refine wpS_bind (wpS_mergeLoP an hk mx my (show 0 < ((arrOf st).extract (sa + k) sb).size by rw [zx]; (first|lia|omega)) (show 0 < ((arrOf st).extract sb (sb + m)).size by rw [zy]; (first|lia|omega)) fun r g mr=>?_)
  refine wpS_bind (wpS_modify (wpS_bind (wpS_get (wpS_pure ?_))))
  have f:=fin r g mr
  rw [<-hfa] at f
  have e:(failedOf st).isNone=true:=by rw [hfa]; rfl
  show Q (failedOf st).isNone _
  rw [e]
  exact f
 ·rw [if_neg q3]
  refine wpS_bind (wpS_mergeHiP an hk mx my (show 0 < ((arrOf st).extract (sa + k) sb).size by rw [zx]; (first|lia|omega)) (show 0 < ((arrOf st).extract sb (sb + m)).size by rw [zy]; (first|lia|omega)) fun r g mr=>?_)
  refine wpS_bind (wpS_modify (wpS_bind (wpS_get (wpS_pure ?_))))
  have f:=fin r g mr
  rw [<-hfa] at f
  have e:(failedOf st).isNone=true:=by rw [hfa]; rfl
  show Q (failedOf st).isNone _
  rw [e]
  exact f
def CovP:Nat->List (Nat × Nat)->Nat->Prop
 | a,[],b=>a=b
 | a,(p,n) :: r,b=>p=a/\1<=n/\CovP (a + n) r b
theorem CovP.app:∀ {l1 l2:List (Nat × Nat)} {a b:Nat},CovP a (l1 ++ l2) b ↔ ∃ m,CovP a l1 m/\CovP m l2 b
 | [],l2,a,b=>⟨fun h=>⟨a,rfl,h⟩,fun ⟨m,e,h⟩=>by cases e; exact h⟩
 | (p,n) :: r,l2,a,b=>by
  refine ⟨fun h=>?_,fun h=>?_⟩
  ·obtain ⟨h1,h2,h3⟩:=h
   obtain ⟨m,a1,a2⟩:=CovP.app.mp h3
   exact ⟨m,⟨h1,h2,a1⟩,a2⟩
  ·obtain ⟨m,⟨h1,h2,h3⟩,h4⟩:=h
   exact ⟨h1,h2,CovP.app.mpr ⟨m,h3,h4⟩⟩
theorem CovP.le:∀ {l:List (Nat × Nat)} {a b:Nat},CovP a l b->a + l.length<=b
 | [],a,b,h=>Nat.le_of_eq h
 | (p,n) :: r,a,b,h=>by
  have:=CovP.le h.2.2
  have:=h.2.1
  rw [List.length_cons]
  (first|lia|omega)
structure SrtP (κ:SortKind) (a0:Array Keyed) (lo:Nat) (st:SortSt):Prop where
 kd:kindOf st=κ
 pm:(arrOf st).Perm a0
 fa:failedOf st=none
 cv:CovP 0 ((pendingOf st).toList.map whr) lo
theorem SrtP.merge {st:SortSt} {lo i:Nat} {Q:Bool->SortSt->Prop} (an:Ans prog w A s κ lt a0) (h:SrtP κ a0 lo st) (hi:i + 1 < (pendingOf st).size) (hlo:lo<=a0.size)
  (q:∀ st',SrtP κ a0 lo st'->(pendingOf st').size + 1=(pendingOf st).size->(∀ k,lo<=k->itA (arrOf st') k=itA (arrOf st) k)->Q true st'):wpS (model prog w) A E s (mergeAt' i) Q st:=by
 have hl:i < (pendingOf st).toList.length:=by rw [Array.length_toList]; (first|lia|omega)
 have hl2:i + 1 < (pendingOf st).toList.length:=by rw [Array.length_toList]; (first|lia|omega)
 obtain ⟨⟨sa,na,p1⟩,ex⟩:∃ x,(pendingOf st).toList[i]=x:=⟨_,rfl⟩
 obtain ⟨⟨sb,nb,p2⟩,ey⟩:∃ y,(pendingOf st).toList[i + 1]=y:=⟨_,rfl⟩
 have e:(pendingOf st).toList=(pendingOf st).toList.take i ++ (sa,na,p1) :: (sb,nb,p2) :: (pendingOf st).toList.drop (i + 2):=by
  conv=>lhs; rw [<-List.take_append_drop i (pendingOf st).toList]
  rw [List.drop_eq_getElem_cons hl,List.drop_eq_getElem_cons hl2,ex,ey]
 have tl:((pendingOf st).toList.take i).length=i:=by rw [List.length_take]; (first|lia|omega)
 obtain ⟨l1,el1⟩:∃ l,l=(pendingOf st).toList.take i:=⟨_,rfl⟩
 obtain ⟨l2,el2⟩:∃ l,l=(pendingOf st).toList.drop (i + 2):=⟨_,rfl⟩
 rw [<-el1,<-el2] at e
 rw [<-el1] at tl
 have cv:=h.cv
 rw [e,List.map_append,CovP.app] at cv
 obtain ⟨m,c1,c2,c3,c5,c6,c8⟩:=cv
 dsimp only [whr] at c2 c3 c5 c6 c8
 subst c2
 have ele:=c8.le
 subst tl
 refine wpS_mergeAtP an h.kd h.pm h.fa e c5 c3 c6 (by (first|lia|omega)) fun ys pe g y1 y2 y4=>q _ ⟨h.kd,y1,rfl,?_⟩ ?_ ?_
 ·show CovP 0 (pe.toList.map whr) lo
  rw [y4,List.map_append,CovP.app]
  refine ⟨sa,c1,rfl,?_,?_⟩
  ·show 1<=na + nb
   (first|lia|omega)
  ·show CovP (sa + (na + nb)) _ lo
   rw [<-Nat.add_assoc]
   exact c8
 ·show pe.size + 1=_
  have z1:pe.toList.length=l1.length + (l2.length + 1):=by rw [y4]; simp
  have z2:(pendingOf st).toList.length=l1.length + (l2.length + 1 + 1):=by rw [e]; simp
  rw [Array.length_toList] at z1 z2
  (first|lia|omega)
 ·intro k hk
  exact y2 k (.inr (by (first|lia|omega)))
theorem wpS_sortRunsP {st:SortSt} {Q:Unit->SortSt->Prop} (an:Ans prog w A s κ lt a0) (hk:kindOf st=κ) (ha:arrOf st=a0) (hf:failedOf st=none) (hpe:pendingOf st=#[]) (h2:1<=a0.size)
  (h:∀ st',(arrOf st').Perm a0->failedOf st'=none->Q () st'):wpS (model prog w) A E s sortRuns' Q st:=by
 have hp:(arrOf st).Perm a0:=by rw [ha]
 refine wpS_bind (wpS_get ?_)
 dsimp only
 have ez:((sortPriv% PySem.Builtin.SortState.a) st).size=a0.size:=by rw [show (sortPriv% PySem.Builtin.SortState.a) st=a0 from ha]
 rw [ez]
 refine wpS_bind (wpS_mono (wpS_forRange (I:=fun x c st'=>∃ lo,c=(none,lo)/\x<=lo/\lo<=a0.size/\SrtP κ a0 lo st')
  (Q:=fun c st'=>c=(none,a0.size)/\SrtP κ a0 a0.size st') ?step ?fin ?init) ?post)
 case init=>
  refine ⟨0,rfl,Nat.le_refl _,Nat.zero_le _,hk,hp,hf,?_⟩
  rw [hpe]
  exact rfl
 case fin=>
  rintro c st' ⟨lo,rfl,q1,q2,q3⟩
  have:lo=a0.size:=by (first|lia|omega)
  rw [this] at q3 ⊢
  exact ⟨rfl,q3⟩
 case step=>
  rintro x c st' _ hx ⟨lo,rfl,q1,q2,q3⟩
  dsimp only
  by_cases hlo:lo >= a0.size
  ·rw [if_pos hlo]
   have:lo=a0.size:=by (first|lia|omega)
   rw [this] at q3 ⊢
   exact wpS_pure ⟨rfl,q3⟩
  rw [if_neg hlo]
  have hz:=q3.pm.size_eq
  refine wpS_bind (wpS_countRunP an q3.kd q3.pm (by (first|lia|omega)) (by (first|lia|omega)) fun m ys k1 m1 m2=>?_)
  dsimp only
  by_cases hm:m < (sortPriv% PySem.Builtin.minRun) a0.size a0.size 0
  case' pos=>
   rw [if_pos hm]
   refine wpS_bind (wpS_lift (wpAny_rule ⟨rfl,?_⟩))
   refine wpS_bind (wpS_binarySortP (st:=setArr st' ys) an q3.kd (k1.1.trans q3.pm) (by (first|lia|omega)) m1 (by (first|lia|omega)) fun zs k2=>?_)
   simp only [Bool.not_true,Bool.false_eq_true,if_false]
   refine wpS_bind (wpS_get ?_)
   obtain ⟨n,en⟩:∃ n,n=min (a0.size - lo) ((sortPriv% PySem.Builtin.minRun) a0.size a0.size 0):=⟨_,rfl⟩
   have n1:1<=n:=by (first|lia|omega)
   have n2:lo + n<=a0.size:=by (first|lia|omega)
   rw [<-en]
   have kz:Kp (arrOf st') zs lo:=⟨k2.1.trans k1.1,fun k hk=>(k2.2 k hk).trans (k1.2 k hk)⟩
  case' neg=>
   rw [if_neg hm]
   refine wpS_bind (wpS_get ?_)
   obtain ⟨zs,ezs⟩:∃ zs,zs=ys:=⟨_,rfl⟩
   obtain ⟨n,en⟩:∃ n,n=m:=⟨_,rfl⟩
   have n1:1<=n:=by (first|lia|omega)
   have n2:lo + n<=a0.size:=by (first|lia|omega)
   have kz:Kp (arrOf st') zs lo:=by rw [ezs]; exact k1
   rw [<-ezs,<-en]
  all_goals
   have S2:SrtP κ a0 lo (setArr st' zs):=⟨q3.kd,kz.1.trans q3.pm,q3.fa,q3.cv⟩
   have push:∀ st4,SrtP κ a0 lo st4->SrtP κ a0 (lo + n) (setPending st4 ((pendingOf st4).push (lo,n,0))):=by
    intro st4 S4
    refine ⟨S4.kd,S4.pm,S4.fa,?_⟩
    show CovP 0 (((pendingOf st4).push (lo,n,0)).toList.map whr) (lo + n)
    rw [Array.toList_push,List.map_append,CovP.app]
    exact ⟨lo,S4.cv,rfl,n1,rfl⟩
   cases eb:(pendingOf (setArr st' zs)).back? with
   | none=>
    dsimp only
    exact wpS_bind (wpS_modify (wpS_pure ⟨lo + n,rfl,by (first|lia|omega),n2,push _ S2⟩))
   | some bk=>
    obtain ⟨b1,b2,b3⟩:=bk
    dsimp only
    obtain ⟨pw,epw⟩:∃ pw,pw=(sortPriv% PySem.Builtin.power) a0.size (2 * b1 + b2) (2 * b1 + b2 + b2 + n) a0.size:=⟨_,rfl⟩
    rw [<-epw]
    refine wpS_bind (wpS_mono (wpS_forRange (I:=fun _ c st''=>c=(none,())/\SrtP κ a0 lo st'')
     (Q:=fun c st''=>c=(none,())/\SrtP κ a0 lo st'') ?_ (fun _ _ hh=>hh) ⟨rfl,S2⟩) ?_)
    ·rintro y c st'' _ _ ⟨rfl,S3⟩
     refine wpS_bind (wpS_get ?_)
     by_cases hps:(pendingOf st'').size > 1
     ·rw [if_pos hps]
      obtain ⟨⟨o1,o2,o3⟩,eo⟩:∃ o,(pendingOf st'')[(pendingOf st'').size - 2]? = some o:=⟨_,Array.getElem?_eq_getElem (by (first|lia|omega))⟩
      rw [show ((sortPriv% PySem.Builtin.SortState.pending) st'')[((sortPriv% PySem.Builtin.SortState.pending) st'').size - 2]? = some (o1,o2,o3) from eo]
      dsimp only
      by_cases ho:o3<=pw
      ·rw [if_pos ho]
       exact wpS_pure ⟨rfl,S3⟩
      ·rw [if_neg ho]
       refine wpS_bind (S3.merge an (by show (pendingOf st'').size - 2 + 1 < _; (first|lia|omega)) (by (first|lia|omega)) fun st5 S5 _ e5=>?_)
       simp only [Bool.not_true,Bool.false_eq_true,if_false]
       exact wpS_pure ⟨rfl,S5⟩
     ·rw [if_neg hps]
      exact wpS_pure ⟨rfl,S3⟩
    ·rintro c st'' ⟨rfl,S3⟩
     dsimp only
     refine wpS_bind (wpS_modify (wpS_bind (wpS_modify (wpS_pure ⟨lo + n,rfl,by (first|lia|omega),n2,?_⟩))))
     refine push (setPending st'' ((pendingOf st'').modify ((pendingOf st'').size - 1) fun x=>(x.fst,x.2.fst,pw))) ⟨S3.kd,S3.pm,S3.fa,?_⟩
     show CovP 0 (((pendingOf st'').modify ((pendingOf st'').size - 1) fun x=>(x.fst,x.2.fst,pw)).toList.map whr) lo
     rw [map_whr_modify (pendingOf st'') ((pendingOf st'').size - 1) (fun x=>(x.fst,x.2.fst,pw)) fun x=>rfl]
     exact S3.cv
 case post=>
  rintro c st' ⟨rfl,S1⟩
  dsimp only
  have z1:(pendingOf st').size<=a0.size:=by
   have:=S1.cv.le
   rw [List.length_map,Array.length_toList] at this
   (first|lia|omega)
  refine wpS_bind (wpS_mono (wpS_forRange (I:=fun x c st''=>c=(none,())/\SrtP κ a0 a0.size st''/\(pendingOf st'').size + x<=a0.size + 1)
   (Q:=fun c st''=>c=(none,())/\SrtP κ a0 a0.size st''/\(pendingOf st'').size<=1) ?_ ?_ ⟨rfl,S1,by (first|lia|omega)⟩) ?_)
  ·rintro x c st'' _ hx ⟨rfl,S2,z2⟩
   refine wpS_bind (wpS_get ?_)
   by_cases hps:(pendingOf st'').size<=1
   ·rw [if_pos hps]
    exact wpS_pure ⟨rfl,S2,hps⟩
   ·rw [if_neg hps]
    refine wpS_bind (S2.merge an ?_ (Nat.le_refl _) fun st5 S5 z5 _=>?_)
    ·exact fewer2 _ _ (by show 1 < (pendingOf st'').size; (first|lia|omega))
    ·simp only [Bool.not_true,Bool.false_eq_true,if_false]
     exact wpS_pure ⟨rfl,S5,by (first|lia|omega)⟩
  ·rintro c st'' ⟨rfl,S2,z2⟩
   refine ⟨rfl,S2,?_⟩
   (first|lia|omega)
  ·rintro c st'' ⟨rfl,S2,z2⟩
   exact wpS_pure (h st'' S2.pm S2.fa)
theorem listSortP {a:Addr} {vs:List Value} {n:Nat} {P:Fin->Shared->Prop} (lies:s.heap.get? a=some (seqObj "list" vs.toArray n)) (few:vs.length<=sizeLine)
  (cm:2<=vs.length->∀ h',(∀ b o,b ≠ a->s.heap.get? b=some o->h'.get? b=some o) ->
   ∃ κ,(∀ (Q:SortKind->Shared->Prop) (E:Value->Shared->Prop),Q κ { s with heap:=h' }->wpAny (model prog w) A (keyKind' vs.toArray) Q E { s with heap:=h' })/\Ans prog w A { s with heap:=h' } κ lt (pairsOf vs))
  (k:∀ out:List Value,out.Perm vs->P (.done (.ret .none)) { s with heap:=sortedHeap s.heap a vs out.toArray }) :
  wpAny (model prog w) A (Builtin.«list.sort» ⟨[.ref a],[]⟩) P E s:=by
 have alt:=Heap.lt_size lies
 rw [list_sort_plain]
 refine wpAny_bind (listItems_at lies rfl (wpAny_bind (listUpdate_at lies rfl ?_ (by simpa using few) (Nat.zero_le _))))
 obtain ⟨c,lies1⟩:∃ c,(s.heap.update a (Obj.mapSeq fun _=>#[])).get? a=some (seqObj "list" #[] c):=⟨_,get?_update_seq lies (fun _=>#[])⟩
 refine wpAny_bind (seqEpoch_at lies1 rfl (wpAny_bind (wpAny_newTuple (wpAny_bind (wpAny_newList (wpAny_holding ?_) (Nat.zero_le _))) (by simpa using few))))
 obtain ⟨h3,eh3⟩:∃ h3,h3=((s.heap.update a (Obj.mapSeq fun _=>(#[]:Array Value))).push (seqObj "tuple" vs.toArray 0)).push (seqObj "list" #[] 0):=⟨_,rfl⟩
 have lies3:h3.get? a=some (seqObj "list" #[] c):=by
  rw [eh3]
  exact Heap.get?_push_of_some _ (Heap.get?_push_of_some _ lies1)
 have keep3:∀ b o,b ≠ a->s.heap.get? b=some o->h3.get? b=some o:=fun b o hb e=>by
  rw [eh3]
  exact Heap.get?_push_of_some _ (Heap.get?_push_of_some _ ((Heap.get?_update_ne _ _ _ _ hb).trans e))
 show wpAny (model prog w) A _ P E { s with heap:=((s.heap.update a (Obj.mapSeq fun _=>(#[]:Array Value))).push (seqObj "tuple" vs.toArray 0)).push (seqObj "list" #[] 0) }
 rw [<-eh3]
 have last:∀ st':SortSt,(arrOf st').Perm (pairsOf vs)->P (.done (.ret .none)) { s with heap:=h3.update a (Obj.mapSeq fun _=>(arrOf st').map (·.2)) }:=fun st' hp=>by
  have e:(arrOf st').map (·.2)=((arrOf st').toList.map (·.2)).toArray:=by apply Array.toList_inj.mp; simp
  have q:=k _ (out_perm hp)
  rw [<-e] at q
  rw [eh3]
  exact q
 have zl:∀ st':SortSt,(arrOf st').Perm (pairsOf vs)->((arrOf st').map (·.2)).size<=sizeLine + 1:=fun st' hp=>by
  rw [Array.size_map,hp.size_eq,pairsOf_size]
  (first|lia|omega)
 have zv:vs.toArray.size=vs.length:=rfl
 dsimp only
 rcases Nat.lt_or_ge vs.toArray.size 2 with lo | hi
 ·rw [if_pos lo,if_pos lo]
  refine wpAny_bind (wpAny_pure ?_)
  rw [StateT.run_pure]
  refine wpAny_bind (wpAny_pure (wpAny_bind (seqEpoch_at lies3 rfl ?_)))
  have p0:(arrOf (SortSt.mk' general' (vs.toArray.zip vs.toArray) #[] 7 none)).Perm (pairsOf vs):=Array.Perm.refl _
  refine wpAny_bind (listUpdate_at lies3 rfl ?_ (Nat.zero_le _) (zl _ p0))
  rw [bne_self_eq_false]
  exact wpAny_pure (last _ p0)
 ·rw [if_neg (by (first|lia|omega)),if_neg (by (first|lia|omega))]
  obtain ⟨κ,k1,k2⟩:=cm (by (first|lia|omega)) h3 keep3
  refine wpAny_bind (k1 _ _ ?_)
  refine wpAny_bind (wpAny_mono (wpS_sortRunsP (a0:=pairsOf vs) (st:=SortSt.mk' κ (vs.toArray.zip vs.toArray) #[] 7 none)
   (Q:=fun _ st'=>(arrOf st').Perm (pairsOf vs)/\failedOf st'=none) k2 rfl rfl rfl rfl (by rw [pairsOf_size]; (first|lia|omega)) fun st' a1 a2=>⟨a1,a2⟩) ?_ fun _ _ e=>e)
  rintro ⟨u,st'⟩ s' ⟨rfl,hp,hf⟩
  refine wpAny_bind (seqEpoch_at lies3 rfl (wpAny_bind (listUpdate_at lies3 rfl ?_ (Nat.zero_le _) (zl _ hp))))
  dsimp only
  rw [hf,bne_self_eq_false]
  exact wpAny_pure (last st' hp)
theorem sortedP {l:Addr} {vs:List Value} {Q:Value->Shared->Prop} (hl:s.heap.IsList l vs.toArray) (few:vs.length<=sizeLine) (cm:Cmpd prog w s lt vs)
  (k:∀ out:List Value,out.Perm vs->Q (.ref (s.heap.objs.size + 1)) { s with heap:=sortedAll s.heap vs out.toArray }) :
  wpAny (model prog w) A (call (.builtin "sorted") [.ref l]) Q E s:=by
 refine Calls.call_function_entry kind_sorted plain_sorted entry_sorted (args_sorted1 _) ?_
 unfold Builtin.«sorted»
 refine wpAny_bind (m:=checkCount "sorted" 1 1 _) (wpAny_pure (wpAny_bind (collect_list hl ?_ few)))
 refine wpAny_bind (wpAny_newList ?_ (by simpa using few))
 obtain ⟨h1,eh1⟩:∃ h1,h1=(s.heap.push (seqObj "list" #[] 0)).update s.heap.objs.size (Obj.mapSeq (· ++ vs.toArray)):=⟨_,rfl⟩
 have z1:h1.objs.size=s.heap.objs.size + 1:=by rw [eh1,Heap.size_update,size_push']
 have lies:(h1.push (seqObj "list" vs.toArray 0)).get? (s.heap.objs.size + 1)=some (seqObj "list" vs.toArray 0):=by
  rw [<-z1]
  exact Heap.get?_push_size _ rfl
 have keep:∀ b o,s.heap.get? b=some o->(h1.push (seqObj "list" vs.toArray 0)).get? b=some o:=fun b o q=>by
  have hb:=Heap.lt_size q
  refine Heap.get?_push_of_some _ ?_
  rw [eh1,Heap.get?_update_ne _ _ _ _ (Nat.ne_of_lt hb)]
  exact Heap.get?_push_of_some _ q
 show wpAny _ _ _ _ _ { s with heap:=((s.heap.push (seqObj "list" #[] 0)).update s.heap.objs.size (Obj.mapSeq (· ++ vs.toArray))).push (seqObj "list" vs.toArray 0) }
 rw [<-eh1,z1]
 refine wpAny_bind (wpAny_holding (wpAny_call_entry slot_list_sort ⟨_,lies,rfl⟩ entry_list_sort (listSortP (lt:=lt) (s:={ s with heap:=h1.push (seqObj "list" vs.toArray 0) }) lies few ?_ fun out o1=>⟨_,rfl,wpAny_pure ⟨_,rfl,?_⟩⟩) (args_list_sort _)))
 ·intro h2 h' kp
  exact cm h2 _ h' fun b o e=>kp b o (Nat.ne_of_lt (Nat.lt_succ_of_lt (Heap.lt_size e))) (keep b o e)
 ·have q:=k out o1
  unfold sortedAll at q
  rw [<-eh1] at q
  exact q
end
end L2
namespace L2
open PySem PySem.Spec PyProof.Rows
section
variable {prog:Program} {w:World} {A:Around} {E:Value->Shared->Prop} {s:Shared}
end
structure Fn (K:PySem.W.Frag) (mg:Str->Option Value) (nm:Str) (st:Stmt) (ps:List Str) (f:Addr) (fd:FuncData):Prop where
 F:Fun K nm nm st f fd
 mg:mg nm=some (.ref f)
 b:Binds K fd ps []
structure MapAt (H:Hp) (m:Addr) (n:Nat) (xs:List Str) (ws:List Way):Prop where
 ex:∃ t1 t2:Addr,∃ vs:List V,H m=some (.tup [.ref t1,.ref t2])/\H t1=some (.tup (xs.map V.str))/\H t2=some (.tup vs)/\Dats H vs (ws.map wayD)
 len:xs.length=n
 nd:xs.Nodup
 nm:∀ x ∈ xs,nameB x=true
 wl:ws.length<=100
 wn:∀ u ∈ ws,nameB u.1=true/\nameB u.2.1=true/\1<=u.2.2/\u.2.2 < 10 ^ 30
structure Over (J:It) (xs:List V) (S:Hp->Prop):Prop where
 go:∀ i H,S H->i < xs.length->J.go i H
 yld:∀ i H x H',S H->J.yld i H x H'->H'=H/\xs[i]? = some x
 stop:∀ H,S H->J.stop xs.length H
theorem over_list {K:PySem.W.Frag} {a:Addr} {xs:List V}:Over (Itl K a) xs (fun H=>SqL K H a xs):=
 ⟨fun i H q hlt=>⟨xs,xs[i],q,by simp [hlt]⟩,fun i H x H' q y=>⟨y.1,y.2 xs q⟩,fun H q=>⟨xs,q,Nat.le_refl _⟩⟩
theorem over_tup {K:PySem.W.Frag} {a:Addr} {xs:List V}:Over (Itt K a) xs (fun H=>SqT K H a xs):=
 ⟨fun i H q hlt=>⟨xs,xs[i],q,by simp [hlt]⟩,fun i H x H' q y=>⟨y.1,y.2 xs q⟩,fun H q=>⟨xs,q,Nat.le_refl _⟩⟩
theorem read_map {J:It} {xs:List V} {S:Hp->Prop} {g:TG} {te:TE} {H:Hp} {σ0:St} {R:Addr->Hp->Prop} (ov:Over J xs S) (I:Addr->Nat->St->Hp->List V->Prop) (big:xs.length < sizeLine)
  (h0:∀ D,H D=none->I D 0 σ0 (upd H D (.lst [])) [])
  (hs:∀ D i σ H' acc,H D=none->I D i σ H' acc->S H'/\H' D=some (.lst acc)/\acc.length=i)
  (turn:∀ D i σ H' acc x (B:St->V->Hp->Prop),H D=none->xs[i]? = some x->I D i σ H' acc->(∀ σ2 v H5,H5 D=some (.lst acc)->I D (i + 1) σ2 (upd H5 D (.lst (acc ++ [v]))) (acc ++ [v])->B σ2 v H5)->g x σ H' fun σ2 H3=>te σ2 H3 (B σ2))
  (fin:∀ D σ H' acc,H D=none->I D xs.length σ H' acc->R D H') :
  ∀ D,H D=none->∃ W:Nat->Nat->St->Hp->Prop,(∃ m,W 0 m σ0 (upd H D (.lst []))) /\
   ∀ i m σ' H',W i m σ' H'->(J.stop i H'/\R D H')\/(J.go i H'/\∀ x H2,J.yld i H' x H2->g x σ' H2 fun σ2 H3=>tYes σ2 H3 fun b H4=>
    if b=true then te σ2 H4 (fun v H5=>∃ acc,H5 D=some (.lst acc)/\acc.length < sizeLine/\∃ m',m' < m/\W (i + 1) m' σ2 (upd H5 D (.lst (acc ++ [v])))) else ∃ m',m' < m/\W (i + 1) m' σ2 H4):=by
 intro D hD
 refine ⟨fun i m σ H'=>m=xs.length - i/\i<=xs.length/\∃ acc,I D i σ H' acc,⟨xs.length,rfl,Nat.zero_le _,[],h0 D hD⟩,?_⟩
 rintro i m σ H' ⟨rfl,hi,acc,p⟩
 obtain ⟨s1,s2,s3⟩:=hs D i σ H' acc hD p
 by_cases hlt:i < xs.length
 ·refine .inr ⟨ov.go i H' s1 hlt,fun x H2 y=>?_⟩
  obtain ⟨rfl,ex⟩:=ov.yld i H' x H2 s1 y
  have e:∀ (F:St->V->Hp->Prop) (G:St->Hp->Prop),(fun (σ2:St) (H3:Hp)=>tYes σ2 H3 fun b H4=>if b=true then te σ2 H4 (F σ2) else G σ2 H4)=fun σ2 H3=>te σ2 H3 (F σ2):=by
   intro F G
   funext σ2 H3
   show (if true=true then te σ2 H3 (F σ2) else G σ2 H3)=_
   rw [if_pos rfl]
  rw [e (fun σ2 v H5=>∃ acc,H5 D=some (.lst acc)/\acc.length < sizeLine/\∃ m',m' < xs.length - i/\(m'=xs.length - (i + 1)/\i + 1<=xs.length/\∃ acc',I D (i + 1) σ2 (upd H5 D (.lst (acc ++ [v]))) acc')) (fun σ2 H4=>∃ m',m' < xs.length - i/\(m'=xs.length - (i + 1)/\i + 1<=xs.length/\∃ acc',I D (i + 1) σ2 H4 acc'))]
  refine turn D i σ H2 acc x _ hD ex p fun σ2 v H5 d5 p5=>?_
  exact ⟨acc,d5,by (first|lia|omega),xs.length - (i + 1),by (first|lia|omega),rfl,hlt,_,p5⟩
 ·have e:i=xs.length:=by (first|lia|omega)
  subst e
  exact .inl ⟨ov.stop H' s1,fin D σ H' acc hD p⟩
abbrev Row:=Str × Int
def rowD (u:Row):PyData:=.tuple [.str u.1,.int u.2]
structure RowsOk (xs:List Str) (lo:Int) (rs:List Row):Prop where
 sub:∀ r ∈ rs,r.1 ∈ xs
 nd:(rs.map (·.1)).Nodup
 lo:∀ r ∈ rs,lo<=r.2/\r.2 < 10 ^ 30
 one:1<=rs.length
def rk (u:Row):List Atm:=[.s u.1,.i u.2]
theorem row_at {H:Hp} {v:V} {u:Row} (h:Dat H v (rowD u)):∃ t,v=.ref t/\H t=some (.tup [.str u.1,.int u.2]):=by
 unfold rowD at h
 cases h with
 | tup ha hd=>
  cases hd with
  | cons h1 r1=>
   cases r1 with
   | cons h2 r2=>
    cases r2
    cases h1
    cases h2
    exact ⟨_,rfl,ha⟩
theorem rowD_of {H:Hp} {t:Addr} {u:Row} (h:H t=some (.tup [.str u.1,.int u.2])):Dat H (.ref t) (rowD u):=.tup h (.cons (.str _) (.cons (.int _) .nil))
theorem row_dats {H2 H3:Hp} {vs:List V} {rs:List Row} (h:Dats H2 vs (rs.map rowD)) (ht:∀ b xs,H2 b=some (.tup xs)->H3 b=some (.tup xs)):Dats H3 vs (rs.map rowD):=by
 induction rs generalizing vs with
 | nil=>cases h; exact .nil
 | cons u rs ih=>
  cases h with
  | cons h1 r=>
   obtain ⟨t,rfl,e⟩:=row_at h1
   exact .cons (rowD_of (ht _ _ e)) (ih r)
theorem dats_row {H:Hp}:∀ {vs:List V} {rs:List Row} {i:Nat} {x:V},Dats H vs (rs.map rowD)->vs[i]? = some x->∃ u t,rs[i]? = some u/\x=.ref t/\H t=some (.tup [.str u.1,.int u.2])
 | _,[],i,x,.nil,e=>by simp at e
 | _,u :: rs,0,x,.cons h r,e=>by
  simp only [List.getElem?_cons_zero,Option.some.injEq] at e
  subst e
  obtain ⟨t,rfl,q⟩:=row_at h
  exact ⟨u,t,rfl,rfl,q⟩
 | _,u :: rs,i + 1,x,.cons h r,e=>by
  obtain ⟨u',t,a,b,c⟩:=dats_row r (by simpa using e)
  exact ⟨u',t,by simpa using a,b,c⟩
theorem rows_len {H:Hp}:∀ {vs:List V} {rs:List Row},Dats H vs (rs.map rowD)->vs.length=rs.length
 | _,[],.nil=>rfl
 | _,u :: rs,.cons h r=>by rw [List.length_cons,List.length_cons,rows_len r]
theorem rows_perm {H:Hp} {vs vs':List V} (p:vs'.Perm vs):∀ {rs:List Row},Dats H vs (rs.map rowD)->∃ rs':List Row,Dats H vs' (rs'.map rowD)/\rs'.Perm rs:=by
 induction p with
 | nil=>intro rs h; exact ⟨rs,h,.refl _⟩
 | cons x p ih=>
  intro rs h
  cases rs with
  | nil=>cases h
  | cons u rs=>
   cases h with
   | cons h1 h2=>
    obtain ⟨rs',a,b⟩:=ih h2
    exact ⟨u :: rs',.cons h1 a,b.cons u⟩
 | swap x y l=>
  intro rs h
  cases rs with
  | nil=>cases h
  | cons u rs=>
   cases h with
   | cons h1 h2=>
    cases rs with
    | nil=>cases h2
    | cons v rs=>
     cases h2 with
     | cons h3 h4=>exact ⟨v :: u :: rs,.cons h3 (.cons h1 h4),.swap u v rs⟩
 | trans p1 p2 ih1 ih2=>
  intro rs h
  obtain ⟨rs1,a1,b1⟩:=ih2 h
  obtain ⟨rs2,a2,b2⟩:=ih1 a1
  exact ⟨rs2,a2,b2.trans b1⟩
theorem row_tupK {H:Hp} {v:V} {u:Row} (h:Dat H v (rowD u)):TupK H (fun i=>decide (i < 1)) v/\keyV H v=rk u:=by
 obtain ⟨t,rfl,ht⟩:=row_at h
 refine ⟨⟨t,_,rfl,ht,by simp,fun i y e=>?_⟩,?_⟩
 ·unfold KindV
  match i,e with
  | 0,e=>cases e; simp
  | 1,e=>cases e; simp
  | n + 2,e=>simp at e
 ·show (match H t with | some (.tup ys)=>ys.map vAtm | _=>[])=_
  rw [ht]
  rfl
theorem rows_tupK {H:Hp}:∀ {vs:List V} {rs:List Row},Dats H vs (rs.map rowD)->(∀ v ∈ vs,TupK H (fun i=>decide (i < 1)) v)/\vs.map (keyV H)=rs.map rk
 | _,[],.nil=>⟨(fun v hv=>nomatch hv),rfl⟩
 | _,u :: rs,.cons h r=>by
  obtain ⟨a1,a2⟩:=row_tupK h
  obtain ⟨b1,b2⟩:=rows_tupK r
  refine ⟨fun v hv=>?_,by rw [List.map_cons,List.map_cons,a2,b2]⟩
  rcases List.mem_cons.mp hv with rfl | hv
  ·exact a1
  ·exact b1 v hv
theorem RowsOk.perm {xs:List Str} {lo:Int} {rs rs':List Row} (h:RowsOk xs lo rs) (p:rs'.Perm rs):RowsOk xs lo rs':=
 ⟨fun r hr=>h.sub r (p.mem_iff.mp hr),(p.map (·.1)).nodup_iff.mpr h.nd,fun r hr=>h.lo r (p.mem_iff.mp hr),by rw [p.length_eq]; exact h.one⟩
def Lim (x:V) (d:PyData):Prop:=(x=.non/\d=.none)\/∃ i:Int,x=.int i/\d=.int i/\1<=i/\i < 10 ^ 30
end L2
namespace L2
open PySem PySem.Spec PySem.W PyProof.Rows
theorem tups_us {X:Cx} {pins:List (Addr × Obj)} {σ:St} {H:Hp} {s:Shared} (I:Inv X pins σ H s) {kd:Nat->Bool}:∀ {vs:List V} {its:List Value},Vals vs its->(∀ v ∈ vs,TupK H kd v)->∀ u ∈ its,TupU s.heap kd u
 | _,_,.nil,_,_,hu=>nomatch hu
 | _,_,.cons r1 r2,hk,u,hu=>by
  rcases List.mem_cons.mp hu with rfl | hu
  ·exact (tup_uv I r1 (hk _ List.mem_cons_self)).1
  ·exact tups_us I r2 (fun v hv=>hk v (List.mem_cons_of_mem _ hv)) u hu
theorem call_sorted_tupsP {X:Cx}:CallR X (.builtin "sorted") (fun xs H Q=>∃ (a:Addr) (vs:List V) (kd:Nat->Bool),xs=[.ref a]/\SqL X.K H a vs/\(∀ v ∈ vs,TupK H kd v) /\
  ∀ (l:Addr) (vs':List V),H l=none->vs'.Perm vs->Q (.ref l) (upd H l (.lst vs'))):=by
 intro pins s σ H xs us Q I r h
 obtain ⟨a,vs,kd,rfl,ha,hk,q⟩:=h
 obtain ⟨u,rfl,ru⟩:=vals1 r
 cases ru
 obtain ⟨its,rv,pl,hz⟩:=I.list ha
 refine sortedP pl.isList (by rw [<-rv.length]; exact hz) (tups_cmpd (tups_us I rv hk)) fun out o1=>?_
 obtain ⟨vs',rv',pv⟩:=vals_perm o1 rv
 obtain ⟨e,he⟩:=sortedAll_at s.heap its out.toArray
 exact ⟨.ref (s.heap.objs.size + 1),_,I.laid (o:=.lst vs') (t':=s.toks) (fun b o z=>sortedAll_old z) (Nat.le_succ _) ⟨by rw [pv.length_eq]; exact hz,out,e,rv',he⟩,rfl,q _ vs' (I.hok.fresh (Nat.le_succ _)) pv⟩
theorem call_sorted_rowsP {X:Cx}:CallR X (.builtin "sorted") (fun xs H Q=>∃ (a:Addr) (vs:List V) (rs:List Row),xs=[.ref a]/\SqL X.K H a vs/\Dats H vs (rs.map rowD) /\
  ∀ (l:Addr) (vs':List V) (rs':List Row),H l=none->Dats H vs' (rs'.map rowD)->rs'.Perm rs->Q (.ref l) (upd H l (.lst vs'))):=by
 intro pins s σ H xs us Q I r h
 obtain ⟨a,vs,rs,rfl,ha,hd,q⟩:=h
 refine call_sorted_tupsP pins s σ H _ us Q I r ⟨a,vs,_,rfl,ha,(rows_tupK hd).1,fun l vs' hl pv=>?_⟩
 obtain ⟨rs',d1,p1⟩:=rows_perm pv hd
 exact q l vs' rs' hl d1 p1
theorem call_sorted_waysP {X:Cx}:CallR X (.builtin "sorted") (fun xs H Q=>∃ (a:Addr) (vs:List V) (ws:List Way),xs=[.ref a]/\SqL X.K H a vs/\Dats H vs (ws.map wayD) /\
  ∀ (l:Addr) (vs':List V) (ws':List Way),H l=none->Dats H vs' (ws'.map wayD)->ws'.Perm ws->Q (.ref l) (upd H l (.lst vs'))):=by
 intro pins s σ H xs us Q I r h
 obtain ⟨a,vs,ws,rfl,ha,hd,q⟩:=h
 refine call_sorted_tupsP pins s σ H _ us Q I r ⟨a,vs,_,rfl,ha,(ways_tupK hd).1,fun l vs' hl pv=>?_⟩
 obtain ⟨ws',d1,p1⟩:=dats_perm pv hd
 exact q l vs' ws' hl d1 p1
end L2
namespace L2
open PySem PySem.Spec PyProof.Rows
theorem tupK {H H':Hp} {p:Addr} (hP:PnAt H p) (k:Keep p H H'):∀ b ys,H b=some (.tup ys)->H' b=some (.tup ys):=fun b ys z=>k b _ (by
 obtain ⟨_,_,_,q⟩:=hP
 exact ne_of z q (fun y=>by cases y)) z
theorem MapAt.keepT {H H':Hp} {m:Addr} {n:Nat} {xs:List Str} {ws:List Way} (h:MapAt H m n xs ws) (t:∀ b ys,H b=some (.tup ys)->H' b=some (.tup ys)):MapAt H' m n xs ws:=by
 obtain ⟨ta,tb,vs,a,b,c,e⟩:=h.ex
 exact ⟨⟨ta,tb,vs,t _ _ a,t _ _ b,t _ _ c,way_dats e t⟩,h.len,h.nd,h.nm,h.wl,h.wn⟩
theorem two_sorted {x y x' y':Str} (p:[x',y'].Perm [x,y]) (h:sortedS [x',y']=true):x'=minS x y/\y'=maxS x y:=by
 have h1:=sorted_pw h
 have h2:[minS x y,maxS x y].Pairwise fun a b=>¬ b.cps.toList < a.cps.toList:=by
  refine List.pairwise_pair.mpr ?_
  unfold minS maxS
  by_cases a:y.cps.toList < x.cps.toList
  ·rw [if_pos a,if_neg (fun z=>lt_irr _ (List.lt_trans a z))]
   exact fun z=>lt_irr _ (List.lt_trans a z)
  ·rw [if_neg a]
   by_cases b:x.cps.toList < y.cps.toList
   ·rw [if_pos b]
    exact a
   ·rw [if_neg b]
    exact lt_irr _
 have p2:[minS x y,maxS x y].Perm [x,y]:=by
  unfold minS maxS
  by_cases a:y.cps.toList < x.cps.toList
  ·rw [if_pos a,if_neg (fun z=>lt_irr _ (List.lt_trans a z))]
   exact .swap _ _ _
  ·rw [if_neg a]
   by_cases b:x.cps.toList < y.cps.toList
   ·rw [if_pos b]
   ·rw [if_neg b]
    have e:x=y:=str_anti a b
    rw [e]
 have e:=sorted_eq h1 h2 (p.trans p2.symm)
 simp only [List.cons.injEq,and_true] at e
 exact e
structure MapW (H:Hp) (m:Addr) (n:Nat) (ps:List Str) (ws:List Way):Prop where
 at':MapAt H m n ps ws
 dr:∃ (xs:List Str) (ws0:List Way),ps.Perm xs/\ws.Perm (ws0.map norm)/\WaysC xs ws0
 so:sortedS ps=true
 l64:ws.length < 64
theorem MapW.web {H:Hp} {m:Addr} {n:Nat} {ps:List Str} {ws:List Way} (h:MapW H m n ps ws) (n1:1<=n) (n30:n<=30) :
  ∃ r,WebOk H m ps ws r/\(∀ u ∈ ws,1<=u.2.2)/\(∀ x y l l',Edge ws x y l->Edge ws x y l'->l=l'):=by
 obtain ⟨xs,ws0,pp,wp,wof,sep,jn⟩:=h.dr
 have pl:0 < ps.length:=by rw [h.at'.len]; (first|lia|omega)
 have hr0:ps[0] ∈ xs:=pp.mem_iff.mp (List.getElem_mem pl)
 have en:=fun x y l=>edge_norm wp x y l
 refine ⟨ps[0],⟨⟨h.at'.ex⟩,h.at'.nd,by rw [h.at'.len]; (first|lia|omega),h.l64,fun u hu=>?_,List.getElem?_eq_getElem pl,fun Sp hs hcl z hz=>?_⟩,fun u hu=>(h.at'.wn u hu).2.2.1,fun x y l l' e1 e2=>edge_uniq sep ((en x y l).mp e1) ((en x y l').mp e2)⟩
 ·obtain ⟨q1,q2⟩:=ends_norm wp (fun u hu=>⟨(wof u hu).1,(wof u hu).2.1⟩) u hu
  exact ⟨pp.mem_iff.mpr q1,pp.mem_iff.mpr q2⟩
 ·exact Joined.all jn Sp (fun b c hbc=>hcl b c ((adj_norm wp b c).mpr hbc)) hr0 hs z (pp.mem_iff.mp hz)
theorem ints_items:∀ {ns:List Int} {us:List Value},Vals (ns.map V.int) us->∃ ts:List (Int × Tok),us=ts.map (fun p=>Value.int p.1 p.2)/\ts.map (·.1)=ns
 | [],_,.nil=>⟨[],rfl,rfl⟩
 | n :: ns,_,.cons r q=>by
  obtain ⟨t,rfl⟩:=r
  obtain ⟨ts,rfl,e⟩:=ints_items q
  exact ⟨(n,t) :: ts,rfl,by rw [List.map_cons,e]⟩
theorem call_sum_ints {X:Cx} (hc:X.calm=true):CallR X (.builtin "sum") (fun xs H Q=>∃ (a:Addr) (ns:List Int),xs=[.ref a]/\SqL X.K H a (ns.map V.int)/\Q (.int ns.sum) H):=by
 intro pins s σ H xs us Q I r h
 obtain ⟨a,ns,rfl,ha,q⟩:=h
 obtain ⟨u,rfl,ru⟩:=vals1 r
 cases ru
 obtain ⟨its,rv,pl,hz⟩:=I.list ha
 obtain ⟨ts,rfl,e⟩:=ints_items rv
 have hl:s.heap.IsList a (intItems ts.toArray):=by
  have:=pl.isList
  unfold intItems
  simpa using this
 refine sum_intListG (I.ok.hd hc) hl fun h' tk t' kk=>?_
 refine ⟨.int ns.sum,H,I.kept (t':=tk) kk,⟨t',?_⟩,q⟩
 have:preSum (numAt ts.toArray) ts.toArray.size=ns.sum:=by
  rw [preSum_eq,List.take_of_length_le (by simp),<-e]
 rw [this]
theorem keys_of_tuple:typeLookup (.type "tuple") "keys"=pure none:=by rw [typeLookup_type,builtinLookup_eq_fast]; kernel_rfl
theorem tupQ_miss {prog:Program} {w:World} {A:Around} {E:Value->Shared->Prop} {s:Shared} {a:Addr} {o:Obj} {xs:Array Value} {k:Nat} {Q:Option Value->Shared->Prop}
  (hx:s.heap.get? a=some o) (hc:o.cls=.type "tuple") (hdat:o.data=.seq xs k) (hd:o.dict=none) (hA:A.handled=none)
  (h:∀ h' tk,(∀ b ob,s.heap.get? b=some ob->h'.get? b=some ob)->Q none { s with heap:=h',toks:=tk }):wpAny (model prog w) A (getAttr? (.ref a) "keys") Q E s:=by
 obtain ⟨c,dct,dat,sl⟩:=o
 simp only at hc hdat hd
 subst hc hdat hd
 obtain ⟨hp,g,d,tk,os⟩:=s
 have hT:∀ tk',(⟨hp,g,d,tk',os⟩:Shared).TypeIs (.ref a) "tuple":=fun _=>⟨_,hx,rfl⟩
 have f1:=sub_AttributeError
 have f3:=F.slot_tuple_getattribute.lookup
 have f4:=F.slot_tuple_getattribute.bind (.ref a)
 have f5:=am_tuple_getattr_none
 unfold getAttr? getAttrBy? getAttrBy
 repeat (any_goals (first | assumption | exact hT _ | ((with_reducible show wpAny _ _ (call (Value.builtin "tuple.__getattribute__") _ _) _ _ _); refine call_meets F.slot_tuple_getattribute (hT _) am_entry_tuple_getattribute (F.args_tuple_getattribute_2 _ _) (meets_getattribute_miss_tuple a xs k sl "keys" _ keys_of_tuple (by decide +kernel) (by decide +kernel)) ⟨hx,hA,fun h' tk' e hx'=>?_⟩) | wp_step))
 obtain ⟨t',u',he⟩:=hx'.there
 show wpAny _ _ (getattributeRaised _ _ _ _ _ _ _) _ _ _
 unfold getattributeRaised
 have hE:∀ tk',(⟨h',g,d,tk',os⟩:Shared).TypeIs (.ref e) "AttributeError":=fun _=>⟨_,he,rfl⟩
 repeat (any_goals (first | assumption | exact hE _ | wp_step))
 exact h _ _ hx'.keeps
section
variable {prog:Program} {w:World} {A:Around} {R:Result->Shared->Prop} {g0:Heap} {D it l:Addr} {vs:List Value} {ps:List (Str × V)}
theorem upd_loopT (hh:A.handled=none) (nI:it ≠ D) (nl:l ≠ it/\l ≠ D) (g1:∀ b o,g0.get? b=some o->b ≠ it/\b ≠ D) (hl:vs.length=ps.length) (rows:∀ (i:Nat) v p,vs[i]? = some v->ps[i]? = some p->RowAt g0 v p) (hsz:ps.length < sizeLine) :
  ∀ (m i:Nat) (s:Shared) (kvs:List (Key × V)) (us:List (Key × Value)),ps.length - i=m->i<=ps.length->s.heap.IsTupleIter it l i->s.heap.IsTuple l vs.toArray->KV kvs us->kvs.length<=i->s.heap.DictOf (mixKind prog w) D us->(∀ b o,g0.get? b=some o->s.heap.get? b=some o) ->
   (∀ h' tk us',KV (mergeK kvs (sK (ps.drop i))) us'->h'.DictOf (mixKind prog w) D us'->(∀ b o,b ≠ it->b ≠ D->s.heap.get? b=some o->h'.get? b=some o)->R (.ok (.ret .none)) { s with heap:=h',toks:=tk }) ->
   codeAny (model prog w) A (.builtin "dict.update.loop" ⟨[.ref D,.ref it,.int (i:Int) 0,.none],[]⟩) R s:=by
 intro m
 induction m with
 | zero=>
  intro i s kvs us hm hi st hL kv kl dd gk r
  have e:i=ps.length:=by (first|lia|omega)
  refine codeAny_builtin entry_upd_loop ?_
  rw [Around.under_plainId plain_upd_loop _]
  unfold Builtin.«dict.update.loop»
  refine wpAny_bind (wpAny_pyNext_tuple_end hh st hL (by simp; (first|lia|omega)) fun h' eb=>?_)
  refine wpAny_bind (wpAny_pure (wpAny_pure ?_))
  have dd':h'.DictOf (mixKind prog w) D us:=dd.at fun o q=>eb D o (Ne.symm nI) q
  refine r h' s.toks us ?_ dd' fun b o b1 b2 q=>eb b o b1 q
  rw [e,List.drop_length]
  exact kv
 | succ m ih=>
  intro i s kvs us hm hi st hL kv kl dd gk r
  have hlt:i < ps.length:=by (first|lia|omega)
  have ev:vs[i]? = some (vs[i]'(by (first|lia|omega))):=List.getElem?_eq_getElem (by (first|lia|omega))
  have ep:ps[i]? = some ps[i]:=List.getElem?_eq_getElem hlt
  obtain ⟨a,t,u,e1,ht,ru⟩:=rows i _ _ ev ep
  rw [e1] at ev
  refine codeAny_builtin entry_upd_loop ?_
  rw [Around.under_plainId plain_upd_loop _]
  unfold Builtin.«dict.update.loop»
  refine wpAny_bind (wpAny_pyNext_tuple_item st hL (x:=.ref a) (by simpa using ev) fun h' st' sb=>?_)
  obtain ⟨o,ho,hc,n,hd⟩:=id ht
  have ha:=(sb.2 a (g1 a o ho).1).trans (gk a o ho)
  have dd':h'.DictOf (mixKind prog w) D us:=dd.at fun o q=>(sb.2 D (Ne.symm nI)).trans q
  have L':h'.IsTuple l vs.toArray:=by
   obtain ⟨ol,hol,rl⟩:=hL
   exact ⟨ol,(sb.2 l nl.1).trans hol,rl⟩
  refine wpAny_bind (wpAny_holding ?_)
  refine wpAny_bind (wpAny_tryCatch ?_)
  unfold Builtin.Dict.pairItems
  refine wpAny_bind (wpAny_typeOf (T:="tuple") ⟨o,ha,hc⟩ ?_)
  rw [if_pos (by decide)]
  refine wpAny_bind (wpAny_seqItems ha hd (wpAny_pure ?_))
  show wpAny _ A.in1 (holding [Value.str ps[i].1 t,u] (dictSet D (Value.str ps[i].1 t) u)) _ _ _
  have us64:us.length<=sizeLine:=by rw [<-kv.length]; (first|lia|omega)
  refine wpAny_holding (wpAny_dictSet_pairs (k:=Sum.inr ps[i].1) (hsz:=us64) (mixKind_str prog w _ t) dd' fun h2 dd2 sb2=>?_)
  have ki:((i:Int) + 1)=((i + 1:Nat):Int):=by (first|lia|omega)
  refine wpAny_pure ⟨plainId_quiet plain_upd_loop _,?_⟩
  show codeAny (model prog w) A (.builtin "dict.update.loop" ⟨[.ref D,.ref it,.int ((i:Int) + 1) 0,.none],[]⟩) R _
  rw [ki]
  have kl2:=length_putK kvs (Sum.inr ps[i].1:Key) ps[i].2
  have it2:h2.IsTupleIter it l (i + 1):=by
   obtain ⟨oi,hoi,ri⟩:=st'
   exact ⟨oi,(sb2.2 it nI).trans hoi,ri⟩
  refine ih (i + 1) _ (putK kvs (Sum.inr ps[i].1) ps[i].2) _ (by (first|lia|omega)) hlt it2 ?_ (kv.put (Sum.inr ps[i].1) ru) (by (first|lia|omega)) dd2 (fun b ob q=>(sb2.2 b (g1 b ob q).2).trans ((sb.2 b (g1 b ob q).1).trans (gk b ob q))) fun h3 tk3 us3 kv3 dd3 k3=>?_
  ·obtain ⟨ol,hol,rl⟩:=L'
   exact ⟨ol,(sb2.2 l nl.2).trans hol,rl⟩
  ·refine r h3 tk3 us3 ?_ dd3 fun b ob b1 b2 q=>k3 b ob b1 b2 ((sb2.2 b b2).trans ((sb.2 b b1).trans q))
   have ed:ps.drop i=ps[i] :: ps.drop (i + 1):=(List.drop_eq_getElem_cons hlt)
   rw [ed]
   exact kv3
end
section
variable {prog:Program} {w:World} {A:Around} {E:Value->Shared->Prop} {s:Shared}
theorem call_dict_tuple {l:Addr} {vs:List Value} {ps:List (Str × V)} {Q:Value->Shared->Prop} (hh:A.handled=none) {ol:Obj} {nl:Nat} (hl:s.heap.get? l=some ol) (hc:ol.cls=.type "tuple") (hd:ol.data=.seq vs.toArray nl) (hdc:ol.dict=none)
  (hlen:vs.length=ps.length) (rows:∀ (i:Nat) v p,vs[i]? = some v->ps[i]? = some p->RowAt s.heap v p) (hsz:ps.length < sizeLine)
  (h:∀ h' tk us,KV (mergeK [] (sK ps)) us->h'.DictOf (mixKind prog w) s.heap.objs.size us->(∀ b o,s.heap.get? b=some o->h'.get? b=some o)->Q (.ref s.heap.objs.size) { s with heap:=h',toks:=tk }):wpAny (model prog w) A (call (.type "dict") [.ref l]) Q E s:=by
 refine callType_codes (Q₁:=fun obj s₁=>obj=.ref s.heap.objs.size/\s₁ = { s with heap:=s.heap.push { cls:=.type "dict",data:=.dict #[] } }) F.kt_called_dict (F.kt_typeCall_dict_1 _) F.entry_dict_init (kt_code_dict_new _ ⟨rfl,rfl⟩) ?_
 rintro obj s₁ ⟨rfl,rfl⟩
 have hnew:(s.heap.push { cls:=.type "dict",data:=.dict #[] }).DictOf (mixKind prog w) s.heap.objs.size []:=Heap.DictOf.new s.heap
 have hl1:(s.heap.push { cls:=.type "dict",data:=.dict #[] }).get? l=some ol:=Heap.get?_push_of_some _ hl
 refine ⟨hnew.typeIs,F.args_dict_init_2 _ _,?_⟩
 unfold Builtin.«dict.__init__»
 refine wpAny_bind ?_
 unfold Builtin.Dict.selfAndRest
 refine wpAny_bind (wpAny_notOrdered_dict hnew.typeIs ?_)
 show wpAny _ _ (pure (s.heap.objs.size,[Value.ref l])) _ _ _
 refine wpAny_pure ?_
 show wpAny _ _ (Builtin.Dict.updateFrom "dict.__init__" s.heap.objs.size (.ref l) [] .none) _ _ _
 unfold Builtin.Dict.updateFrom
 refine wpAny_bind (wpAny_typeOf (T:="tuple") ⟨ol,hl1,hc⟩ ?_)
 rw [if_pos (by decide)]
 refine wpAny_bind (tupQ_miss hl1 hc hd hdc hh fun h1 tk1 k1=>?_)
 simp only [Option.isNone_none,if_true]
 refine wpAny_bind (wpAny_rule ?_)
 have hl2:h1.IsTuple l vs.toArray:=⟨ol,k1 _ _ hl1,hc,nl,hd⟩
 refine wpAny_bind (wpAny_pyIter_tuple hl2 ?_)
 have old:∀ b o,s.heap.get? b=some o->h1.get? b=some o:=fun b o q=>k1 b o (Heap.get?_push_of_some _ q)
 obtain ⟨od,esd,epd,hod,rd⟩:=id hnew
 have hD1:=k1 _ _ hod
 have ltD:=Heap.lt_size hD1
 have ltl:=Heap.lt_size (k1 _ _ hl1)
 refine wpAny_pure ⟨plainId_quiet plain_upd_loop _,?_⟩
 refine upd_loopT (A:=A.in1) (g0:=s.heap) (D:=s.heap.objs.size) (it:=h1.objs.size) (l:=l) (vs:=vs) (ps:=ps) hh (Nat.ne_of_gt ltD) ⟨Nat.ne_of_lt ltl,Nat.ne_of_lt (Heap.lt_size hl)⟩ (fun b o q=>⟨Nat.ne_of_lt (Heap.lt_size (old b o q)),Nat.ne_of_lt (Heap.lt_size q)⟩) hlen rows hsz _ 0 { s with heap:=h1.push { cls:=.type "tuple_iterator",data:=.fields #[.ref l,.int 0 0] },toks:=tk1 } [] [] rfl (Nat.zero_le _)
  ⟨_,Heap.get?_push_size _ rfl,rfl,rfl⟩ (hl2.push _) .nil (Nat.le_refl _) ⟨od,esd,epd,Heap.get?_push_of_some _ hD1,rd⟩ (fun b o q=>Heap.get?_push_of_some _ (old b o q)) fun h' tk us kv dd kk=>?_
 rw [List.drop_zero] at kv
 exact ⟨rfl,h h' tk us kv dd fun b o q=>kk b o (Nat.ne_of_lt (Heap.lt_size (old b o q))) (Nat.ne_of_lt (Heap.lt_size q)) (Heap.get?_push_of_some _ (old b o q))⟩
end
theorem call_dict_pairsT {X:Cx} (hc:X.calm=true):CallR X (.type "dict") (fun xs H Q=>∃ (a:Addr) (vs:List V) (ps:List (Str × V)),xs=[.ref a]/\H a=some (.tup vs)/\vs.length=ps.length/\(∀ (i:Nat) v p,vs[i]? = some v->ps[i]? = some p->∃ t,v=.ref t/\H t=some (.tup [.str p.1,p.2]))/\(ps.map (·.1)).Nodup/\ps.length < 1000 /\
  ∀ D,H D=none->Q (.ref D) (upd H D (.dK (sK ps)))):=by
 intro pins s σ H xs us Q I r h
 obtain ⟨a,vs,ps,rfl,ha,hl,hk,hn,h1000,q⟩:=h
 obtain ⟨u,rfl,ru⟩:=vals1 r
 cases ru
 obtain ⟨hz,its,rv,⟨o,ho,hc',n,hdat⟩,dn⟩:=(show ObjOk X.prog X.w H s.heap a (.tup vs) from I.hok a _ ha)
 have hd':=dn o ho
 have il:its.length=ps.length:=by rw [<-rv.length,hl]
 have big:1000 < sizeLine:=by decide
 refine call_dict_tuple (I.ok.hd hc) (ps:=ps) ho hc' hdat hd' il (fun i v p e1 e2=>?_) (by (first|lia|omega)) fun h' tk us kv dd kk=>?_
 ·have hi:i < its.length:=(List.getElem?_eq_some_iff.mp e1).1
  have e3:vs[i]? = some vs[i]:=List.getElem?_eq_getElem (by (first|lia|omega))
  obtain ⟨v',e4,r4⟩:=rv.get e3
  rw [e1] at e4
  cases e4
  obtain ⟨t,e5,ht⟩:=hk i _ p e3 e2
  rw [e5] at r4
  cases r4
  obtain ⟨its2,rv2,pl2,_⟩:=I.tuple (SqT.of ht)
  cases rv2 with
  | cons x1 y1=>
   cases y1 with
   | cons x2 y2=>
    cases y2
    obtain ⟨t1,rfl⟩:=x1
    exact ⟨t,t1,_,rfl,pl2,x2⟩
 ·have em:mergeK [] (sK ps)=sK ps:=merge_sK ps [] (by simpa using hn)
  rw [em] at kv
  refine ⟨.ref s.heap.objs.size,_,I.laid (a:=s.heap.objs.size) (o:=.dK (sK ps)) (t':=tk) kk (Nat.le_refl _) (dk_new (by rw [sK_len]; (first|lia|omega)) (beq_eq_false_iff_ne.mpr (Ne.symm (Nat.ne_of_lt I.big))) kv dd),rfl,q _ (I.hok.fresh (Nat.le_refl _))⟩
structure CaseW (H:Hp) (c m:Addr) (n:Nat) (xs:List Str) (ws:List Way) (rs1 rs2:List Row) (x:V) (d:PyData):Prop where
 ex:∃ (t1 t2:Addr) (us1 us2:List V),H c=some (.tup [.ref m,.ref t1,.ref t2,x])/\H t1=some (.tup us1)/\Dats H us1 (rs1.map rowD)/\H t2=some (.tup us2)/\Dats H us2 (rs2.map rowD)
 map:MapW H m n xs ws
 n1:1<=n
 n30:n<=30
 ok1:RowsOk xs 0 rs1
 ok2:RowsOk xs 1 rs2
 l1:rs1.length<=10
 l2:rs2.length<=30
 lim:Lim x d
theorem MapW.keepT {H H':Hp} {m:Addr} {n:Nat} {xs:List Str} {ws:List Way} (h:MapW H m n xs ws) (t:∀ b ys,H b=some (.tup ys)->H' b=some (.tup ys)):MapW H' m n xs ws:=⟨h.at'.keepT t,h.dr,h.so,h.l64⟩
theorem CaseW.keepT {H H':Hp} {c m:Addr} {n:Nat} {xs:List Str} {ws:List Way} {rs1 rs2:List Row} {x:V} {d:PyData} (h:CaseW H c m n xs ws rs1 rs2 x d) (t:∀ b ys,H b=some (.tup ys)->H' b=some (.tup ys)):CaseW H' c m n xs ws rs1 rs2 x d:=by
 obtain ⟨t1,t2,us1,us2,a,b,e,f,g⟩:=h.ex
 exact ⟨⟨t1,t2,us1,us2,t _ _ a,t _ _ b,row_dats e t,t _ _ f,row_dats g t⟩,h.map.keepT t,h.n1,h.n30,h.ok1,h.ok2,h.l1,h.l2,h.lim⟩
theorem CaseW.same {H H':Hp} {c m:Addr} {n:Nat} {xs:List Str} {ws:List Way} {rs1 rs2:List Row} {x:V} {d:PyData} (h:CaseW H c m n xs ws rs1 rs2 x d) (s:Same H H'):CaseW H' c m n xs ws rs1 rs2 x d:=h.keepT fun b ys z=>s _ _ z
def costOf (rs:List Row) (h:Str):Int:=((rs.find? fun r=>decide (r.1=h)).map (·.2)).getD 0
theorem costOf_mem {rs:List Row} (h:(rs.map (·.1)).Nodup) {r:Row} (hr:r ∈ rs):costOf rs r.1=r.2:=by
 induction rs with
 | nil=>exact nomatch hr
 | cons q rs ih=>
  rw [List.map_cons,List.nodup_cons] at h
  unfold costOf
  rw [List.find?_cons]
  by_cases e:q.1=r.1
  ·rw [decide_eq_true e]
   rcases List.mem_cons.mp hr with z | z
   ·rw [z]; rfl
   ·exact absurd (List.mem_map.mpr ⟨_,z,e.symm⟩) h.1
  ·rw [decide_eq_false e]
   rcases List.mem_cons.mp hr with z | z
   ·rw [z] at e; exact absurd rfl e
   ·exact ih h.2 z
def rowP (rs:List Row):List (Str × V):=rs.map fun r=>(r.1,.int r.2)
theorem rowP_keys (rs:List Row):(rowP rs).map (·.1)=rs.map (·.1):=by unfold rowP; rw [List.map_map]; rfl
theorem rowP_at {H:Hp} {us:List V} {rs:List Row} (h:Dats H us (rs.map rowD)):∀ (i:Nat) v p,us[i]? = some v->(rowP rs)[i]? = some p->∃ t,v=.ref t/\H t=some (.tup [.str p.1,p.2]):=fun i v p e1 e2=>by
 obtain ⟨u,t,eu,rfl,ht⟩:=dats_row h e1
 unfold rowP at e2
 rw [List.getElem?_map,eu] at e2
 cases e2
 exact ⟨t,rfl,ht⟩
theorem rowP_get {H:Hp} {B:Addr} {rs:List Row} (h:H B=some (.dK (sK (rowP rs)))) (nd:(rs.map (·.1)).Nodup) {y:Str} (hy:y ∈ rs.map (·.1)):DGet H B (.str y) (some (.int (costOf rs y))):=by
 obtain ⟨r,hr,rfl⟩:=List.mem_map.mp hy
 rw [costOf_mem nd hr]
 exact .inl ⟨_,Sum.inr r.1,.inl h,rfl,(sK_some (nv:=rowP rs) (by rw [rowP_keys]; exact nd) (List.mem_map.mpr ⟨r,hr,rfl⟩)).symm⟩
theorem IsTupleIter_at {h h':Heap} {a t:Addr} {i:Nat} (x:h.IsTupleIter a t i) (e:∀ o,h.get? a=some o->h'.get? a=some o):h'.IsTupleIter a t i:=let ⟨o,ho,r⟩:=x; ⟨o,e _ ho,r⟩
section
variable {prog:Program} {w:World} {A:Around} {E:Value->Shared->Prop} {s:Shared}
theorem nextOf_tuple_item {it l:Addr} {i:Nat} {items} {x:Value} {Q:Value->Shared->Prop} (hit:s.heap.IsTupleIter it l i)
  (hl:s.heap.IsTuple l items) (hx:items[i]? = some x)
  (hQ:∀ h',h'.IsTupleIter it l (i + 1)->Heap.SameBut it s.heap h'->Q x { s with heap:=h' }) :
  wpAny (model prog w) A (Builtin.SmallTypes.nextOf (.ref it)) Q E s:=by
 obtain ⟨o,ho,hc,hd⟩:=id hit
 obtain ⟨ol,hol,_,nl,hdl⟩:=hl
 unfold Builtin.SmallTypes.nextOf
 refine wpAny_bind (wpAny_callSpecial?_slot (name:=Str.ofString "__next__") hit.typeIs F.slot_tuple_iterator_next
  (wpAny_call_entry F.slot_tuple_iterator_next hit.typeIs F.entry_tuple_iterator_next ?_ (F.args_tuple_iterator_next_1 _)))
 show wpAny _ _ (field (.ref it) 0 >>= _) _ _ s
 refine wpAny_bind (wpAny_field ho hd (x:=.ref l) rfl ?_)
 show wpAny _ _ (if (Value.ref l == Value.none)=true then _ else _) _ _ s
 rw [if_neg (show ¬ ((Value.ref l == Value.none)=true) from Bool.false_ne_true)]
 show wpAny _ _ (field (.ref it) 1 >>= _) _ _ s
 refine wpAny_bind (wpAny_field ho hd (x:=.int i 0) rfl ?_)
 show wpAny _ _ (seqItems? (.ref l) >>= _) _ _ s
 refine wpAny_bind (wpAny_seqItems hol hdl ?_)
 simp only [Int.toNat_natCast,hx]
 refine wpAny_bind (wpAny_setField ho hd (by simp) (wpAny_pure ⟨x,rfl,wpAny_pure (hQ _ ?_ (Heap.SameBut.update ..))⟩))
 exact ⟨_,Heap.get?_update_self _ ho (Obj.isFreed_of_fields (Obj.data_mapFields hd _)),(Obj.cls_mapFields ..).trans hc,by
  rw [Obj.data_mapFields hd]; simp [rawInt]⟩
theorem nextOf_tuple_end {it l:Addr} {i:Nat} {items} {Q:Value->Shared->Prop} (hh:A.handled=none)
  (hit:s.heap.IsTupleIter it l i) (hl:s.heap.IsTuple l items) (hx:items[i]? = none)
  (hE:∀ h' e,Heap.ExtBut it s.heap h'->(∃ o,h'.get? e=some o/\o.cls=.type "StopIteration")->E (.ref e) { s with heap:=h' }) :
  wpAny (model prog w) A (Builtin.SmallTypes.nextOf (.ref it)) Q E s:=by
 obtain ⟨o,ho,hc,hd⟩:=id hit
 obtain ⟨ol,hol,_,nl,hdl⟩:=hl
 unfold Builtin.SmallTypes.nextOf
 refine wpAny_bind (wpAny_callSpecial?_slot (name:=Str.ofString "__next__") hit.typeIs F.slot_tuple_iterator_next
  (wpAny_call_entry F.slot_tuple_iterator_next hit.typeIs F.entry_tuple_iterator_next ?_ (F.args_tuple_iterator_next_1 _)))
 show wpAny _ _ (field (.ref it) 0 >>= _) _ _ s
 refine wpAny_bind (wpAny_field ho hd (x:=.ref l) rfl ?_)
 show wpAny _ _ (if (Value.ref l == Value.none)=true then _ else _) _ _ s
 rw [if_neg (show ¬ ((Value.ref l == Value.none)=true) from Bool.false_ne_true)]
 show wpAny _ _ (field (.ref it) 1 >>= _) _ _ s
 refine wpAny_bind (wpAny_field ho hd (x:=.int i 0) rfl ?_)
 show wpAny _ _ (seqItems? (.ref l) >>= _) _ _ s
 refine wpAny_bind (wpAny_seqItems hol hdl ?_)
 simp only [Int.toNat_natCast,hx]
 refine wpAny_bind (wpAny_rule (wpAny_bind (wpAny_setField ho hd (by simp) ?_)))
 show wpAny _ _ (newExc (.type "StopIteration") [] >>= _) _ _ _
 refine wpAny_bind ?_
 simp only [newExc,newTuple]
 refine wpAny_bind (wpAny_newObj_type ?_ (by size_fits))
 refine wpAny_bind (m:=firstArgMember _ _) (wpAny_of_eq (a:=Value.none) (by first | rfl | (simp only [firstArgMember]; rfl)) ?_)
 refine wpAny_newObj_type ?_ (by size_fits)
 simp only [raiseNew]
 refine wpAny_bind (wpAny_handled ?_)
 first | rw [show A.in1.handled=none from hh] | rw [hh]
 refine wpAny_bind (wpAny_pure (wpAny_throw ?_))
 exact hE _ _ (((Heap.SameBut.update ..).extBut.push _).push _) ⟨_,Heap.get?_push_size _ rfl,rfl⟩
theorem zipT_next_item {z TI TO i1 i2 l1 l2:Addr} {k1 k2:Nat} {xs ys:Array Value} {x y a b:Value} {Q:Value->Shared->Prop} (D:ZipApart z TI TO i1 i2 l1 l2)
  (hz:IsZip s.heap z TI TO .none) (hTI:IsPair s.heap TI (.ref i1) (.ref i2)) (hTO:IsPair s.heap TO a b)
  (h1:s.heap.IsTupleIter i1 l1 k1) (h2:s.heap.IsListIter i2 l2 k2) (hl1:s.heap.IsTuple l1 xs) (hl2:s.heap.IsList l2 ys) (hx:xs[k1]? = some x) (hy:ys[k2]? = some y)
  (hQ:∀ h',IsZip h' z TI TO (rawInt s.heap.objs.size)->IsPair h' TO x y->h'.IsTupleIter i1 l1 (k1 + 1)->h'.IsListIter i2 l2 (k2 + 1)->IsPair h' s.heap.objs.size x y->h'.objs.size=s.heap.objs.size + 1 ->
   (∀ c o,c ≠ z->c ≠ TO->c ≠ i1->c ≠ i2->s.heap.get? c=some o->h'.get? c=some o)->Q (.ref s.heap.objs.size) { s with heap:=h' }) :
  wpAny (model prog w) A (Builtin.«zip.__next__» ⟨[.ref z],[]⟩) (fun fin s'=>∃ v,fin=.done (.ret v)/\Q v s') E s:=by
 show wpAny _ _ (field (.ref z) 2 >>= _) _ _ _
 refine wpAny_bind (wpAny_field hz rfl (x:=.bool false) rfl ?_)
 show wpAny _ _ (field (.ref z) 3 >>= _) _ _ _
 refine wpAny_bind (wpAny_field hz rfl (x:=.ref TI) rfl ?_)
 refine wpAny_bind (wpAny_seqItems hTI rfl ?_)
 show wpAny _ _ (Builtin.SmallTypes.ownedTupleIsFree (.ref z) >>= _) _ _ _
 refine wpAny_bind ?_
 unfold Builtin.SmallTypes.ownedTupleIsFree
 refine wpAny_bind (wpAny_field hz rfl (x:=.none) rfl (wpAny_pure ?_))
 simp only [if_true]
 refine wpAny_bind (wpAny_rule ?_)
 refine wpAny_bind (wpAny_field hz rfl (x:=.ref TO) rfl ?_)
 refine wpAny_bind (wpAny_setField_rec hz (by simp) fun h₁ hz₁ hs₁=>?_)
 replace hz₁:IsZip h₁ z TI TO .ellipsis:=hz₁
 refine wpAny_bind ?_
 simp only [List.zipIdx_cons,List.zipIdx_nil,List.forIn_cons,List.forIn_nil]
 refine wpAny_bind (wpAny_bind (wpAny_onRaise ?_))
 show wpAny _ _ (Builtin.SmallTypes.nextOf (.ref i1) >>= _) _ _ _
 refine wpAny_bind (nextOf_tuple_item (h1.extBut hs₁.extBut D.i1z) (hl1.extBut hs₁.extBut D.l1z) hx fun h₂ h1₂ hs₂=>wpAny_pure ?_)
 have hTO₂:IsPair h₂ TO a b:=hs₂.extBut _ _ D.TOi1 (hs₁.extBut _ _ D.TOz hTO)
 refine wpAny_bind (wpAny_seqItems hTO₂ rfl ?_)
 refine wpAny_bind (wpAny_updateSeq_pair hTO₂ fun h₃ hTO₃ hs₃=>?_)
 replace hTO₃:IsPair h₃ TO x b:=hTO₃
 refine wpAny_bind (wpAny_letGo (wpAny_pure ?_))
 refine wpAny_bind (wpAny_bind (wpAny_onRaise ?_))
 show wpAny _ _ (Builtin.SmallTypes.nextOf (.ref i2) >>= _) _ _ _
 refine wpAny_bind (wpAny_nextOf_list_item (((h2.extBut hs₁.extBut D.i2z).extBut hs₂.extBut D.i12.symm).extBut hs₃.extBut D.TOi2.symm)
  (((hl2.extBut hs₁.extBut D.l2z).extBut hs₂.extBut D.l2i1).extBut hs₃.extBut D.l2TO) hy fun h₄ h2₄ hs₄=>wpAny_pure ?_)
 have hTO₄:IsPair h₄ TO x b:=hs₄.extBut _ _ D.TOi2 hTO₃
 refine wpAny_bind (wpAny_seqItems hTO₄ rfl ?_)
 refine wpAny_bind (wpAny_updateSeq_pair hTO₄ fun h₅ hTO₅ hs₅=>?_)
 replace hTO₅:IsPair h₅ TO x y:=hTO₅
 refine wpAny_bind (wpAny_letGo (wpAny_pure (wpAny_pure ?_)))
 refine wpAny_bind (wpAny_seqItems hTO₅ rfl ?_)
 refine wpAny_bind (wpAny_newTuple ?_)
 have hsz:h₅.objs.size=s.heap.objs.size:=by rw [hs₅.1,hs₄.1,hs₃.1,hs₂.1,hs₁.1]
 have hz₅:IsZip h₅ z TI TO .ellipsis:=hs₅.extBut _ _ D.TOz.symm (hs₄.extBut _ _ D.i2z.symm (hs₃.extBut _ _ D.TOz.symm (hs₂.extBut _ _ D.i1z.symm hz₁)))
 have hk₅:∀ c o,c ≠ z->c ≠ TO->c ≠ i1->c ≠ i2->s.heap.get? c=some o->h₅.get? c=some o:=fun c o c1 c2 c3 c4 e=>
  hs₅.extBut _ _ c2 (hs₄.extBut _ _ c4 (hs₃.extBut _ _ c2 (hs₂.extBut _ _ c3 (hs₁.extBut _ _ c1 e))))
 have h1₅:h₅.IsTupleIter i1 l1 (k1 + 1):=((h1₂.extBut hs₃.extBut D.TOi1.symm).extBut hs₄.extBut D.i12).extBut hs₅.extBut D.TOi1.symm
 have h2₅:h₅.IsListIter i2 l2 (k2 + 1):=h2₄.extBut hs₅.extBut D.TOi2.symm
 have hzlt:z < h₅.objs.size:=Heap.lt_size hz₅
 have hTOlt:TO < h₅.objs.size:=Heap.lt_size hTO₅
 have hi1lt:i1 < h₅.objs.size:=by obtain ⟨_,e,_⟩:=h1₅; exact Heap.lt_size e
 have hi2lt:i2 < h₅.objs.size:=by obtain ⟨_,e,_⟩:=h2₅; exact Heap.lt_size e
 show wpAny _ _ (Builtin.SmallTypes.ownedTupleHandOut (.ref z) (.ref h₅.objs.size) >>= _) _ _ _
 refine wpAny_bind ?_
 unfold Builtin.SmallTypes.ownedTupleHandOut
 have hz₆:IsZip (h₅.push { cls:=.type "tuple",data:=.seq #[x,y] }) z TI TO .ellipsis:=Heap.get?_push_of_some _ hz₅
 refine wpAny_bind (wpAny_setField_rec hz₆ (by simp) fun h₇ hz₇ hs₇=>?_)
 replace hz₇:IsZip h₇ z TI TO (rawInt h₅.objs.size):=hz₇
 refine wpAny_setField_rec hz₇ (by simp) fun h₈ hz₈ hs₈=>?_
 replace hz₈:IsZip h₈ z TI TO (rawInt h₅.objs.size):=hz₈
 have up:∀ c o,c ≠ z->h₅.get? c=some o->h₈.get? c=some o:=fun c o c1 e=>hs₈.extBut _ _ c1 (hs₇.extBut _ _ c1 (Heap.get?_push_of_some _ e))
 have hT₈:IsPair h₈ h₅.objs.size x y:=hs₈.extBut _ _ (Nat.ne_of_gt hzlt) (hs₇.extBut _ _ (Nat.ne_of_gt hzlt) (Heap.get?_push_size _ rfl))
 have hz8:h₈.objs.size=h₅.objs.size + 1:=by rw [hs₈.1,hs₇.1,Heap.size_push]
 rw [hsz] at hz₈ hT₈ hz8
 refine wpAny_pure ⟨_,rfl,?_⟩
 show Q (.ref h₅.objs.size) _
 rw [hsz]
 exact hQ h₈ hz₈ (up _ _ D.TOz hTO₅) (h1₅.at fun o e=>up _ o D.i1z e) (h2₅.at fun o e=>up _ o D.i2z e) hT₈ hz8 fun c o c1 c2 c3 c4 e=>up c o c1 (hk₅ c o c1 c2 c3 c4 e)
theorem zipT_next_end {z TI TO i1 i2 l1 l2:Addr} {k1 k2:Nat} {xs ys:Array Value} {a b:Value} {Q:Fin->Shared->Prop} (hh:A.handled=none) (D:ZipApart z TI TO i1 i2 l1 l2)
  (hz:IsZip s.heap z TI TO .none) (hTI:IsPair s.heap TI (.ref i1) (.ref i2)) (hTO:IsPair s.heap TO a b)
  (h1:s.heap.IsTupleIter i1 l1 k1) (h2:s.heap.IsListIter i2 l2 k2) (hl1:s.heap.IsTuple l1 xs) (hl2:s.heap.IsList l2 ys) (hend:xs[k1]? = none\/ys[k2]? = none)
  (hE:∀ h' e,(∀ c o,c ≠ z->c ≠ TO->c ≠ i1->c ≠ i2->s.heap.get? c=some o->h'.get? c=some o)->(∃ o,h'.get? e=some o/\o.cls=.type "StopIteration")->E (.ref e) { s with heap:=h' }) :
  wpAny (model prog w) A (Builtin.«zip.__next__» ⟨[.ref z],[]⟩) Q E s:=by
 show wpAny _ _ (field (.ref z) 2 >>= _) _ _ _
 refine wpAny_bind (wpAny_field hz rfl (x:=.bool false) rfl ?_)
 show wpAny _ _ (field (.ref z) 3 >>= _) _ _ _
 refine wpAny_bind (wpAny_field hz rfl (x:=.ref TI) rfl ?_)
 refine wpAny_bind (wpAny_seqItems hTI rfl ?_)
 show wpAny _ _ (Builtin.SmallTypes.ownedTupleIsFree (.ref z) >>= _) _ _ _
 refine wpAny_bind ?_
 unfold Builtin.SmallTypes.ownedTupleIsFree
 refine wpAny_bind (wpAny_field hz rfl (x:=.none) rfl (wpAny_pure ?_))
 simp only [if_true]
 refine wpAny_bind (wpAny_rule ?_)
 refine wpAny_bind (wpAny_field hz rfl (x:=.ref TO) rfl ?_)
 refine wpAny_bind (wpAny_setField_rec hz (by simp) fun h₁ hz₁ hs₁=>?_)
 replace hz₁:IsZip h₁ z TI TO .ellipsis:=hz₁
 refine wpAny_bind ?_
 simp only [List.zipIdx_cons,List.zipIdx_nil,List.forIn_cons,List.forIn_nil]
 refine wpAny_bind (wpAny_bind (wpAny_onRaise ?_))
 show wpAny _ _ (Builtin.SmallTypes.nextOf (.ref i1) >>= _) _ _ _
 cases hx:xs[k1]? with
 | none=>
  refine wpAny_bind (nextOf_tuple_end hh (h1.extBut hs₁.extBut D.i1z) (hl1.extBut hs₁.extBut D.l1z) hx fun h₂ e hs₂ he=>?_)
  obtain ⟨oe,hoe,hce⟩:=he
  have hz₂:IsZip h₂ z TI TO .ellipsis:=hs₂ _ _ D.i1z.symm hz₁
  have hez:e ≠ z:=fun x=>by subst x; rw [hz₂] at hoe; cases hoe; simp at hce
  refine wpAny_setField_rec hz₂ (by simp) fun h₃ _ hs₃=>hE h₃ e (fun c o c1 _ c3 _ x=>hs₃.extBut _ _ c1 (hs₂ _ _ c3 (hs₁.extBut _ _ c1 x))) ⟨oe,hs₃.extBut _ _ hez hoe,hce⟩
 | some x=>
  have hy:ys[k2]? = none:=by rcases hend with h | h; rw [hx] at h; cases h; exact h
  refine wpAny_bind (nextOf_tuple_item (h1.extBut hs₁.extBut D.i1z) (hl1.extBut hs₁.extBut D.l1z) hx fun h₂ h1₂ hs₂=>wpAny_pure ?_)
  have hTO₂:IsPair h₂ TO a b:=hs₂.extBut _ _ D.TOi1 (hs₁.extBut _ _ D.TOz hTO)
  refine wpAny_bind (wpAny_seqItems hTO₂ rfl ?_)
  refine wpAny_bind (wpAny_updateSeq_pair hTO₂ fun h₃ hTO₃ hs₃=>?_)
  refine wpAny_bind (wpAny_letGo (wpAny_pure ?_))
  refine wpAny_bind (wpAny_bind (wpAny_onRaise ?_))
  show wpAny _ _ (Builtin.SmallTypes.nextOf (.ref i2) >>= _) _ _ _
  refine wpAny_bind (wpAny_nextOf_list_end hh (((h2.extBut hs₁.extBut D.i2z).extBut hs₂.extBut D.i12.symm).extBut hs₃.extBut D.TOi2.symm)
   (((hl2.extBut hs₁.extBut D.l2z).extBut hs₂.extBut D.l2i1).extBut hs₃.extBut D.l2TO) hy fun h₄ e hs₄ he=>?_)
  obtain ⟨oe,hoe,hce⟩:=he
  have hz₄:IsZip h₄ z TI TO .ellipsis:=hs₄ _ _ D.i2z.symm (hs₃.extBut _ _ D.TOz.symm (hs₂.extBut _ _ D.i1z.symm hz₁))
  have hez:e ≠ z:=fun x=>by subst x; rw [hz₄] at hoe; cases hoe; simp at hce
  refine wpAny_setField_rec hz₄ (by simp) fun h₅ _ hs₅=>hE h₅ e (fun c o c1 c2 c3 c4 x=>hs₅.extBut _ _ c1 (hs₄ _ _ c4 (hs₃.extBut _ _ c2 (hs₂.extBut _ _ c3 (hs₁.extBut _ _ c1 x))))) ⟨oe,hs₅.extBut _ _ hez hoe,hce⟩
theorem pyNext_zipT_item {z TI TO i1 i2 l1 l2:Addr} {k1 k2:Nat} {xs ys:Array Value} {x y a b:Value} {Q:Option Value->Shared->Prop} (D:ZipApart z TI TO i1 i2 l1 l2)
  (hz:IsZip s.heap z TI TO .none) (hTI:IsPair s.heap TI (.ref i1) (.ref i2)) (hTO:IsPair s.heap TO a b)
  (h1:s.heap.IsTupleIter i1 l1 k1) (h2:s.heap.IsListIter i2 l2 k2) (hl1:s.heap.IsTuple l1 xs) (hl2:s.heap.IsList l2 ys) (hx:xs[k1]? = some x) (hy:ys[k2]? = some y)
  (hQ:∀ h',IsZip h' z TI TO (rawInt s.heap.objs.size)->IsPair h' TO x y->h'.IsTupleIter i1 l1 (k1 + 1)->h'.IsListIter i2 l2 (k2 + 1)->IsPair h' s.heap.objs.size x y->h'.objs.size=s.heap.objs.size + 1 ->
   (∀ c o,c ≠ z->c ≠ TO->c ≠ i1->c ≠ i2->s.heap.get? c=some o->h'.get? c=some o)->Q (some (.ref s.heap.objs.size)) { s with heap:=h' }) :
  wpAny (model prog w) A (pyNext (.ref z)) Q E s:=by
 have hT:s.TypeIs (.ref z) "zip":=⟨_,hz,rfl⟩
 unfold pyNext
 exact wpAny_bind (wpAny_attempt (wpAny_callSpecial?_slot (name:=Str.ofString "__next__") hT F.slot_zip_next
  (wpAny_call_entry F.slot_zip_next hT F.entry_zip_next
   (zipT_next_item D hz hTI hTO h1 h2 hl1 hl2 hx hy fun h' a1 a2 a3 a4 a5 a6 a7=>wpAny_pure (hQ h' a1 a2 a3 a4 a5 a6 a7)) (F.args_zip_next_1 _))))
theorem pyNext_zipT_end {z TI TO i1 i2 l1 l2:Addr} {k1 k2:Nat} {xs ys:Array Value} {a b:Value} {Q:Option Value->Shared->Prop} (hh:A.handled=none) (D:ZipApart z TI TO i1 i2 l1 l2)
  (hz:IsZip s.heap z TI TO .none) (hTI:IsPair s.heap TI (.ref i1) (.ref i2)) (hTO:IsPair s.heap TO a b)
  (h1:s.heap.IsTupleIter i1 l1 k1) (h2:s.heap.IsListIter i2 l2 k2) (hl1:s.heap.IsTuple l1 xs) (hl2:s.heap.IsList l2 ys) (hend:xs[k1]? = none\/ys[k2]? = none)
  (hQ:∀ h',(∀ c o,c ≠ z->c ≠ TO->c ≠ i1->c ≠ i2->s.heap.get? c=some o->h'.get? c=some o)->Q none { s with heap:=h' }):wpAny (model prog w) A (pyNext (.ref z)) Q E s:=by
 have hT:s.TypeIs (.ref z) "zip":=⟨_,hz,rfl⟩
 unfold pyNext
 refine wpAny_bind (wpAny_attempt (wpAny_callSpecial?_slot (name:=Str.ofString "__next__") hT F.slot_zip_next
  (wpAny_call_entry F.slot_zip_next hT F.entry_zip_next (zipT_next_end hh D hz hTI hTO h1 h2 hl1 hl2 hend fun h' e hk he=>?_) (F.args_zip_next_1 _))))
 obtain ⟨o,ho,hc⟩:=he
 refine wpAny_bind (wpAny_isInstance (T:="StopIteration") (b:=true) ⟨o,ho,hc⟩ isSubtype_stop ?_)
 exact wpAny_pure (hQ _ hk)
end
abbrev zipG1 (h:Heap) (l1:Addr):Heap:=h.push { cls:=.type "tuple_iterator",data:=.fields #[.ref l1,.int 0 0] }
abbrev zipG2 (h:Heap) (l1 l2:Addr):Heap:=(zipG1 h l1).push { cls:=.type "list_iterator",data:=.fields #[.ref l2,.int 0 0] }
abbrev zipG3 (h:Heap) (l1 l2:Addr):Heap:=(zipG2 h l1 l2).push { cls:=.type "tuple",data:=.seq #[.ref h.objs.size,.ref (zipG1 h l1).objs.size] }
abbrev zipG4 (h:Heap) (l1 l2:Addr):Heap:=(zipG3 h l1 l2).push { cls:=.type "tuple",data:=.seq #[.none,.none] }
abbrev zipG5 (h:Heap) (l1 l2:Addr):Heap:=(zipG4 h l1 l2).push { cls:=.type "zip",data:=.fields #[.none,.bool false,.bool false,.ref (zipG2 h l1 l2).objs.size,.ref (zipG3 h l1 l2).objs.size] }
theorem meets_zipT_new (l1 l2:Addr) (xs ys:Array Value) :
  Meets (Builtin.«zip.__new__» ⟨[.type "zip",.ref l1,.ref l2],[]⟩) (fun _ R s=>s.heap.IsTuple l1 xs/\s.heap.IsList l2 ys /\
   R (.ok (.ret (.ref (zipG4 s.heap l1 l2).objs.size))) { s with heap:=zipG5 s.heap l1 l2 }):=
 .of_wp fun prog w A R s h=>by
  obtain ⟨hp,g,d,tk,os⟩:=s; obtain ⟨hl1,hl2,h⟩:=h
  have hsub:=sub_zip
  have hL1:Heap.IsTuple (Shared.heap ⟨hp,g,d,tk,os⟩) l1 xs:=hl1
  have hL2:Heap.IsList (Shared.heap ⟨hp.push { cls:=.type "tuple_iterator",data:=.fields #[.ref l1,.int 0 0] },g,d,tk,os⟩) l2 ys:=Heap.IsList.push hl2 _
  wp_walk using wpAny_pyIter_tuple hL1,wpAny_pyIter_list hL2
  exact ⟨_,rfl,h⟩
section
variable {prog:Program} {w:World} {A:Around} {E:Value->Shared->Prop} {s:Shared}
theorem call_zipT {l1 l2:Addr} {xs ys:Array Value} {Q:Value->Shared->Prop} (hl1:s.heap.IsTuple l1 xs) (hl2:s.heap.IsList l2 ys)
  (h:∀ h',IsZip h' (s.heap.objs.size + 4) (s.heap.objs.size + 2) (s.heap.objs.size + 3) .none->IsPair h' (s.heap.objs.size + 2) (.ref s.heap.objs.size) (.ref (s.heap.objs.size + 1)) ->
   IsPair h' (s.heap.objs.size + 3) .none .none->h'.IsTupleIter s.heap.objs.size l1 0->h'.IsListIter (s.heap.objs.size + 1) l2 0->h'.objs.size=s.heap.objs.size + 5 ->
   (∀ c o,s.heap.get? c=some o->h'.get? c=some o)->Q (.ref (s.heap.objs.size + 4)) { s with heap:=h' }) :
  wpAny (model prog w) A (call (.type "zip") [.ref l1,.ref l2]) Q E s:=by
 refine callType_new F.called_zip (by decide) (F.typeCall_zip_2 _ _) (F.newCall_zip_2 _ _) (fun obj=>F.args_object_init_3 obj _ _) F.entry_zip_new
  (meets_zipT_new l1 l2 xs ys) ⟨hl1,hl2,?_⟩
 have z1:(zipG1 s.heap l1).objs.size=s.heap.objs.size + 1:=Heap.size_push ..
 have z2:(zipG2 s.heap l1 l2).objs.size=s.heap.objs.size + 2:=by rw [Heap.size_push,z1]
 have z3:(zipG3 s.heap l1 l2).objs.size=s.heap.objs.size + 3:=by rw [Heap.size_push,z2]
 have z4:(zipG4 s.heap l1 l2).objs.size=s.heap.objs.size + 4:=by rw [Heap.size_push,z3]
 have z5:(zipG5 s.heap l1 l2).objs.size=s.heap.objs.size + 5:=by rw [Heap.size_push,z4]
 have g5:(zipG5 s.heap l1 l2).get? (zipG4 s.heap l1 l2).objs.size=some _:=Heap.get?_push_size _ rfl
 have g4:(zipG5 s.heap l1 l2).get? (zipG3 s.heap l1 l2).objs.size=some _:=Heap.get?_push_of_some _ (Heap.get?_push_size _ rfl)
 have g3:(zipG5 s.heap l1 l2).get? (zipG2 s.heap l1 l2).objs.size=some _:=Heap.get?_push_of_some _ (Heap.get?_push_of_some _ (Heap.get?_push_size _ rfl))
 have g2:(zipG5 s.heap l1 l2).get? (zipG1 s.heap l1).objs.size=some _:=Heap.get?_push_of_some _ (Heap.get?_push_of_some _ (Heap.get?_push_of_some _ (Heap.get?_push_size _ rfl)))
 have g1:(zipG5 s.heap l1 l2).get? s.heap.objs.size=some _:=Heap.get?_push_of_some _ (Heap.get?_push_of_some _ (Heap.get?_push_of_some _ (Heap.get?_push_of_some _ (Heap.get?_push_size _ rfl))))
 show _/\_
 rw [z2,z3,z4] at g5
 rw [z1,z2] at g3
 rw [z3] at g4
 rw [z1] at g2
 rw [z4]
 exact ⟨⟨_,g5,rfl⟩,h _ g5 g3 g4 ⟨_,g1,rfl,rfl⟩ ⟨_,g2,rfl,rfl⟩ z5 fun c o x=>
  Heap.get?_push_of_some _ (Heap.get?_push_of_some _ (Heap.get?_push_of_some _ (Heap.get?_push_of_some _ (Heap.get?_push_of_some _ x))))⟩
end
theorem Inv.turnedT {X:Cx} {pins:List (Addr × Obj)} {σ:St} {H:Hp} {s:Shared} {h':Heap} {t':Nat} {fp:List Addr} {xs:List V} (I:Inv X pins σ H s) (hf:∀ b ∈ fp,FpOk X pins H b)
  (k:∀ b o,b ∉ fp->s.heap.get? b=some o->h'.get? b=some o) (new:ObjOk X.prog X.w (upd H s.heap.objs.size (.tup xs)) h' s.heap.objs.size (.tup xs)) :
  Inv X pins σ (upd H s.heap.objs.size (.tup xs)) { s with heap:=h',toks:=t' }:=by
 have hT:H s.heap.objs.size=none:=I.hok.fresh (Nat.le_refl _)
 have fT:=I.fpOk (Nat.le_refl _) hT
 have nT:∀ b o,s.heap.get? b=some o->b ≠ s.heap.objs.size:=fun b o e z=>absurd (Heap.lt_size e) (by rw [z]; exact Nat.lt_irrefl _)
 have nH:∀ b u,H b=some u->b ∉ fp:=fun b u e z=>by rw [(hf b z).1] at e; cases e
 refine I.step (g':=s.gens) (d':=s.drawn) (ch:=s.heap.objs.size :: fp) (fun b hb=>?_) (fun b o _ _ hc e _=>k b o (fun z=>hc (List.mem_cons_of_mem _ z)) e) (fun b o _ _ hc e _=>⟨o.slots,k b o (fun z=>hc (List.mem_cons_of_mem _ z)) e⟩)
  (fun b o hc e n=>by rw [upd_ne (nT b o e)]; exact n) (fun b o hc e=>⟨o,k b o (fun z=>hc (List.mem_cons_of_mem _ z)) e⟩)
  (fun b xs e=>by rw [upd_ne (ne_of_none e hT)]; exact e) (fun b o u e=>by rw [upd_ne (ne_of_none e hT)]; exact e) (fun b ps e=>⟨#[],by rw [upd_ne (ne_of_none e hT),e]; simp⟩) (fun m hm=>?_) (fun b u e=>?_) I.bare
 ·rcases List.mem_cons.mp hb with rfl | hb
  ·obtain ⟨_,f1,_,f3,f4,f5⟩:=fT
   exact ⟨f3,f1,f4,f5⟩
  ·obtain ⟨_,f1,_,f3,f4,f5⟩:=hf b hb
   exact ⟨f3,f1,f4,f5⟩
 ·obtain ⟨o,es,ep,ho,r⟩:=hm
  exact ⟨o,es,ep,k _ o (fun z=>(hf _ z).2.1 rfl) ho,r⟩
 ·by_cases z:b=s.heap.objs.size
  ·subst z
   rw [upd_same] at e
   cases e
   exact new
  ·rw [upd_ne z] at e
   refine (I.hok b u e).stay (fun c v hc q=>k c v ?_ q) (fun c q=>by rw [upd_ne (ne_of_none q hT)]; exact q) fun c xs q=>by rw [upd_ne (ne_of_none q hT)]; exact q
   rcases hc with z | z
   ·rw [z]; exact nH b u e
   ·exact nH c _ z
theorem Inv.turnedL {X:Cx} {pins:List (Addr × Obj)} {σ:St} {H:Hp} {s:Shared} {h':Heap} {t':Nat} {fp:List Addr} (I:Inv X pins σ H s) (hf:∀ b ∈ fp,FpOk X pins H b)
  (k:∀ b o,b ∉ fp->s.heap.get? b=some o->h'.get? b=some o):Inv X pins σ H { s with heap:=h',toks:=t' }:=by
 have nH:∀ b u,H b=some u->b ∉ fp:=fun b u e z=>by rw [(hf b z).1] at e; cases e
 refine I.step (g':=s.gens) (d':=s.drawn) (ch:=fp) (fun b hb=>?_) (fun b o _ _ hc e _=>k b o hc e) (fun b o _ _ hc e _=>⟨o.slots,k b o hc e⟩) (fun _ _ _ _ n=>n)
  (fun b o hc e=>⟨o,k b o hc e⟩) (fun _ _ e=>e) (fun _ _ _ e=>e) (fun b ps e=>⟨#[],by rw [e]; simp⟩) (fun m hm=>?_) (fun b u e=>?_) I.bare
 ·obtain ⟨_,f1,_,f3,f4,f5⟩:=hf b hb
  exact ⟨f3,f1,f4,f5⟩
 ·obtain ⟨o,es,ep,ho,r⟩:=hm
  exact ⟨o,es,ep,k _ o (fun z=>(hf _ z).2.1 rfl) ho,r⟩
 ·refine (I.hok b u e).stay (fun c v hc q=>k c v ?_ q) (fun _ q=>q) fun _ _ q=>q
  rcases hc with z | z
  ·rw [z]; exact nH b u e
  ·exact nH c _ z
def Itz (K:PySem.W.Frag) (a b:Addr):It:=
 ⟨fun i H=>∃ xs ys x y,SqT K H a xs/\SqL K H b ys/\xs[i]? = some x/\ys[i]? = some y,
   fun i H v H'=>∃ T x y,H T=none/\v=.ref T/\H'=upd H T (.tup [x,y])/\(∀ xs,SqT K H a xs->xs[i]? = some x)/\(∀ ys,SqL K H b ys->ys[i]? = some y),
   fun i H=>∃ xs ys,SqT K H a xs/\SqL K H b ys/\(xs.length<=i\/ys.length<=i)⟩
theorem turn_zip {P:Program} {w:World} {K:PySem.W.Frag} {es:List Expr} {x1} {pos:Pos} (a b z TI TO i1 i2:Addr) (D:ZipApart z TI TO i1 i2 a b) :
  Turn P w K (.Tuple es x1 pos) (Itz K a b) [z,TI,TO,i1,i2] z (fun i h=>IsZip h z TI TO .none/\IsPair h TI (.ref i1) (.ref i2)/\(∃ c d,IsPair h TO c d)/\h.IsTupleIter i1 a i/\h.IsListIter i2 b i) where
 mem:=by simp
 obj:=fun i h st c hc=>by
  obtain ⟨h1,h2,⟨_,_,h3⟩,⟨o4,e4,c4,d4⟩,⟨o5,e5,c5,d5⟩⟩:=st
  simp only [List.mem_cons,List.not_mem_nil,or_false] at hc
  rcases hc with rfl | rfl | rfl | rfl | rfl
  ·exact ⟨_,h1,fun v q=>by cases q⟩
  ·exact ⟨_,h2,fun v q=>by cases q⟩
  ·exact ⟨_,h3,fun v q=>by cases q⟩
  ·exact ⟨_,e4,fun v q=>by rw [d4] at q; cases q⟩
  ·exact ⟨_,e5,fun v q=>by rw [d5] at q; cases q⟩
 keep:=fun i h h' st k=>by
  obtain ⟨h1,h2,⟨c,d,h3⟩,h4,h5⟩:=st
  exact ⟨k _ (by simp) _ h1,k _ (by simp) _ h2,⟨c,d,k _ (by simp) _ h3⟩,IsTupleIter_at h4 fun o e=>k _ (by simp) _ e,h5.at fun o e=>k _ (by simp) o e⟩
 item:=by
  intro X hP hw hK hc i pins s σ H E I hf st hg
  subst hP hw hK
  obtain ⟨xs,ys,x,y,hq,hq2,hx,hy⟩:=hg
  obtain ⟨its,rv,p,hz⟩:=I.tuple hq
  obtain ⟨its2,rv2,p2,hz2⟩:=I.list hq2
  obtain ⟨u,hu,ru⟩:=rv.get hx
  obtain ⟨u2,hu2,ru2⟩:=rv2.get hy
  obtain ⟨h1,h2,⟨c,d,h3⟩,h4,h5⟩:=st
  refine pyNext_zipT_item D h1 h2 h3 h4 h5 (show s.heap.IsTuple a its.toArray from p) p2.isList (x:=u) (y:=u2) (by simpa using hu) (by simpa using hu2) fun h' g1 g2 g3 g4 g5 g6 g7=>?_
  have kk:∀ b' o,b' ∉ [z,TI,TO,i1,i2]->s.heap.get? b'=some o->h'.get? b'=some o:=fun b' o hb e=>by
   simp only [List.mem_cons,List.not_mem_nil,or_false,not_or] at hb
   exact g7 b' o hb.1 hb.2.2.1 hb.2.2.2.1 hb.2.2.2.2 e
  have I1:=I.turnedT (t':=s.toks) (xs:=[x,y]) hf kk ⟨by show 2<=sizeLine; decide,[u,u2],.cons ru (.cons ru2 .nil),⟨_,g5,rfl,0,rfl⟩,fun o e=>by rw [g5] at e; cases e; rfl⟩
  have hT:H s.heap.objs.size=none:=I.hok.fresh (Nat.le_refl _)
  have ltz:=Heap.lt_size h1
  have hf1:∀ b' ∈ [z,TI,TO,i1,i2],(upd H s.heap.objs.size (.tup [x,y])) b'=none:=fun b' hb=>by
   have lt:b' < s.heap.objs.size:=by
    simp only [List.mem_cons,List.not_mem_nil,or_false] at hb
    rcases hb with rfl | rfl | rfl | rfl | rfl
    ·exact Heap.lt_size h1
    ·exact Heap.lt_size h2
    ·exact Heap.lt_size h3
    ·obtain ⟨_,e,_⟩:=h4; exact Heap.lt_size e
    ·obtain ⟨_,e,_⟩:=h5; exact Heap.lt_size e
   rw [upd_ne (Nat.ne_of_lt lt)]
   exact (hf b' hb).1
  refine ⟨.ref s.heap.objs.size,rfl,wpAny_letOwnedTupleGo_zip g1 fun h2' z1 sb=>?_⟩
  obtain ⟨_,f1,_,f3,f4,f5⟩:=hf z (by simp)
  have I2:=I1.turned (t':=s.toks) (h':=h2') (it:=z) (fun b' o hb e=>(sb.2 b' hb).trans e) (hf1 z (by simp)) f1 f3 f4 f5
  have h2s:IsPair h' TI (.ref i1) (.ref i2):=g7 TI _ D.TIz D.TITO D.TIi1 D.TIi2 h2
  exact ⟨.ref s.heap.objs.size,_,I2,rfl,⟨_,x,y,hT,rfl,rfl,fun xs' hx'=>by rw [I.tuple_inj hx' hq]; exact hx,fun ys' hy'=>by rw [I.list_inj hy' hq2]; exact hy⟩,
   ⟨z1,(sb.2 _ D.TIz).trans h2s,⟨_,_,(sb.2 _ D.TOz).trans g2⟩,IsTupleIter_at g3 fun o e=>(sb.2 _ D.i1z).trans e,g4.at fun o e=>(sb.2 _ D.i2z).trans e⟩,hf1⟩
 done:=by
  intro X hP hw hK hc i pins s σ H E I hf st hg
  subst hP hw hK
  obtain ⟨xs,ys,hq,hq2,hx⟩:=hg
  obtain ⟨its,rv,p,hz⟩:=I.tuple hq
  obtain ⟨its2,rv2,p2,hz2⟩:=I.list hq2
  obtain ⟨h1,h2,⟨c,d,h3⟩,h4,h5⟩:=st
  have e1:=rv.length
  have e2:=rv2.length
  refine pyNext_zipT_end (I.ok.hd hc) D h1 h2 h3 h4 h5 (show s.heap.IsTuple a its.toArray from p) p2.isList ?_ fun h' g7=>⟨rfl,I.turnedL (t':=s.toks) hf fun b' o hb e=>?_⟩
  ·rcases hx with hx | hx
   ·exact .inl (by simp; (first|lia|omega))
   ·exact .inr (by simp; (first|lia|omega))
  ·simp only [List.mem_cons,List.not_mem_nil,or_false,not_or] at hb
   exact g7 b' o hb.1 hb.2.2.1 hb.2.2.2.1 hb.2.2.2.2 e
 self:=fun _ _ _ _ _ st h=>wpAny_pyIter_zip st.1 h
def iZip (K:PySem.W.Frag) (ta:TA):TI:=fun σ H R=>ta σ H fun vs H1=>∃ a b,vs=[.ref a,.ref b]/\(∃ xs,SqT K H1 a xs)/\(∃ ys,SqL K H1 b ys)/\R (Itz K a b) H1
theorem pi_zip {X:Cx} {es:List Expr} {x1} {tp:Pos} {a b:Expr} {ta:TA} {p pos:Pos} (hg:Gl X "zip") (hm:X.mg "zip"=none) (ha:PA X [a,b] ta) (hs:starEach [a,b] X.env=[(false,eval a X.env),(false,eval b X.env)]:=by rfl) (hs2:starEach [b] X.env=[(false,eval b X.env)]:=by rfl) :
  PI X (.Tuple es x1 tp) (.Call (.Name "zip" p) [a,b] [] pos) (iZip X.K ta):=by
 intro pins s σ H R I h
 refine Call_ (ld_blt I hg hm boot_zip (PyProof.Rows.callWith_type1 (thn (ha pos pins s σ H _ I h) fun us s1 ⟨vs,H1,I1,r1,q1⟩=>?_) (by rw [hs,hs2]) (by rw [hs2]; rfl)))
 obtain ⟨a',b',e,⟨xs,hx⟩,⟨ys,hy⟩,q⟩:=q1
 subst e
 obtain ⟨its,rv,pt,hz⟩:=I1.tuple hx
 obtain ⟨its2,rv2,pl,hz2⟩:=I1.list hy
 cases r1 with
 | cons r rr=>
  cases rr with
  | cons r' rr=>
   cases rr
   cases r
   cases r'
   have lta:a' < s1.heap.objs.size:=by obtain ⟨o,e,_⟩:=pt; exact Heap.lt_size e
   have ltb:b' < s1.heap.objs.size:=by obtain ⟨o,_,e,_⟩:=pl; exact Heap.lt_size e
   refine call_zipT (show s1.heap.IsTuple a' its.toArray from pt) pl.isList fun h' g1 g2 g3 g4 g5 g6 g7=>?_
   have I2:Inv X pins σ H1 { s1 with heap:=h' }:=I1.kept (t':=s1.toks) g7
   have D:ZipApart (s1.heap.objs.size + 4) (s1.heap.objs.size + 2) (s1.heap.objs.size + 3) s1.heap.objs.size (s1.heap.objs.size + 1) a' b':=by
    have la:@LT.lt Nat _ a' s1.heap.objs.size:=lta
    have lb:@LT.lt Nat _ b' s1.heap.objs.size:=ltb
    constructor <;> (intro z0; have z1:@Eq Nat _ _:=z0; (first|lia|omega))
   refine wpAny_pyIter_zip g1 ?_
   refine ⟨_,_,_,_,H1,rfl,I2,turn_zip a' b' _ _ _ _ _ D,⟨g1,g2,⟨_,_,g3⟩,g4,g5⟩,fun c hc=>?_,q⟩
   have le:s1.heap.objs.size<=c:=by
    simp only [List.mem_cons,List.not_mem_nil,or_false] at hc
    rcases hc with rfl | rfl | rfl | rfl | rfl <;> first | exact Nat.le_add_right _ _ | exact Nat.le_refl _
   exact I1.fpOk le (I1.hok.fresh le)
def Known (H:Hp) (A:Addr) (xs:List Str) (ws:List Way):Prop:=∃ (M:Str->Str->Option Int) (c:Nat),MD H A M c/\∀ x ∈ xs,∀ y ∈ xs,∃ n,M x y=some n/\Dst ws x y n/\0<=n/\n < 2 ^ 300
theorem Known.same {H H':Hp} {A:Addr} {xs:List Str} {ws:List Way} (h:Known H A xs ws) (s:Same H H'):Known H' A xs ws:=let ⟨M,c,a,b⟩:=h; ⟨M,c,a.same s,b⟩
theorem Wsum.app' {ws:List Way} {x y z:Str} {m n:Int} (h:Wsum ws x y m) (g:Wsum ws y z n):Wsum ws x z (m + n):=by
 induction h with
 | nil x=>rw [Int.zero_add]; exact g
 | cons e _ ih=>rw [Int.add_assoc]; exact .cons e (ih g)
theorem joined_sum {xs:List Str} {ws:List Way} (jn:Joined xs ws) {L:Int} (L0:0<=L) (hL:∀ u ∈ ws,u.2.2<=L) (hp:∀ u ∈ ws,1<=u.2.2) {r:Str} (hr:xs[0]? = some r):∀ (j:Nat) x,xs[j]? = some x->∃ m,Wsum ws x r m/\0<=m/\m<=j * L:=by
 intro j
 induction j using Nat.strongRecOn with
 | ind j ih=>
  intro x hx
  by_cases z:j=0
  ·subst z
   rw [hr] at hx
   cases hx
   exact ⟨0,.nil _,Int.le_refl _,by simp⟩
  ·obtain ⟨u,hu,i,hij,e1,e2⟩:=jn j (by (first|lia|omega)) (List.getElem?_eq_some_iff.mp hx).1
   rw [hx] at e2
   cases e2
   obtain ⟨m,w,m0,ml⟩:=ih i hij _ e1
   have hl:=hL u hu
   have hq:=hp u hu
   refine ⟨u.2.2 + m,.cons ⟨u,hu,.inr ⟨rfl,rfl⟩,rfl⟩ w,by (first|lia|omega),?_⟩
   have:((i:Int) + 1) * L<=j * L:=Int.mul_le_mul_of_nonneg_right (by (first|lia|omega)) L0
   rw [Int.add_mul,Int.one_mul] at this
   (first|lia|omega)
theorem MapW.sums {H:Hp} {m:Addr} {n:Nat} {ps:List Str} {ws:List Way} (h:MapW H m n ps ws) (n1:1<=n) (n30:n<=30):∀ x ∈ ps,∀ y ∈ ps,∃ k,Wsum ws x y k/\0<=k/\k < 2 ^ 300:=by
 obtain ⟨xs,ws0,pp,wp,wof,sep,jn⟩:=h.dr
 have en:=fun x y l=>edge_norm wp x y l
 have xl:xs.length=n:=by rw [<-pp.length_eq]; exact h.at'.len
 have hr:xs[0]? = some (xs[0]'(by (first|lia|omega))):=List.getElem?_eq_getElem _
 have hL:∀ u ∈ ws0,u.2.2<=10 ^ 30:=fun u hu=>by
  have:=(h.at'.wn (norm u) (wp.mem_iff.mpr (List.mem_map.mpr ⟨u,hu,rfl⟩))).2.2.2
  have e:(norm u).2.2=u.2.2:=rfl
  (first|lia|omega)
 have one:∀ x ∈ ps,∃ k,Wsum ws0 x (xs[0]'(by (first|lia|omega))) k/\0<=k/\k<=30 * 10 ^ 30:=fun x hx=>by
  obtain ⟨j,hj,ej⟩:=List.getElem_of_mem (pp.mem_iff.mp hx)
  obtain ⟨k,a,b,c⟩:=joined_sum jn (by decide) hL (fun u hu=>(wof u hu).2.2.2) hr j x (by rw [List.getElem?_eq_getElem hj,ej])
  refine ⟨k,a,b,Int.le_trans c (Int.mul_le_mul_of_nonneg_right (by (first|lia|omega)) (by decide))⟩
 intro x hx y hy
 obtain ⟨k1,a1,b1,c1⟩:=one x hx
 obtain ⟨k2,a2,b2,c2⟩:=one y hy
 have a3:=(wsum_iff en).mpr (Wsum.app' a1 a2.symm)
 exact ⟨k1 + k2,a3,by (first|lia|omega),by (first|lia|omega)⟩
theorem Wsum.pos' {ws:List Way} (hp:∀ u ∈ ws,1<=u.2.2) {x y:Str} {m:Int} (h:Wsum ws x y m):0<=m:=by
 induction h with
 | nil=>exact Int.le_refl _
 | cons e _ ih=>obtain ⟨u,hu,_,rfl⟩:=e; have:=hp u hu; (first|lia|omega)
theorem MapW.bound {H:Hp} {m:Addr} {n:Nat} {ps:List Str} {ws:List Way} (h:MapW H m n ps ws) (n1:1<=n) (n30:n<=30) {x y:Str} (hx:x ∈ ps) (hy:y ∈ ps) {k:Int} (d:Dst ws x y k):0<=k/\k < 2 ^ 300:=by
 obtain ⟨k',a,_,c⟩:=h.sums n1 n30 x hx y hy
 exact ⟨d.1.pos' fun u hu=>(h.at'.wn u hu).2.2.1,Int.lt_of_le_of_lt (d.2 k' a) c⟩
theorem FW.doneW {ws:List Way} {xs:List Str} (he:∀ u ∈ ws,u.1 ∈ xs/\u.2.1 ∈ xs) (ex:∀ x ∈ xs,∀ y ∈ xs,∃ m,Wsum ws x y m) {M:Str->Str->Option Int} (h:FW ws xs xs.length M):∀ x ∈ xs,∀ y ∈ xs,∃ n,M x y=some n/\Dst ws x y n:=by
 intro x hx y hy
 obtain ⟨m,hm⟩:=ex x hx y hy
 have low:∀ m,Wsum ws x y m->∃ n,M x y=some n/\n<=m:=fun m g=>by
  rcases g.wi he with ⟨rfl,rfl⟩ | g
  ·exact h.diag x hx
  ·refine h.comp x y m ?_
   rw [List.take_length]
   exact g
 obtain ⟨n,e,_⟩:=low m hm
 refine ⟨n,e,h.sound x y n e,fun m' g=>?_⟩
 obtain ⟨n',e',l⟩:=low m' g
 rw [e] at e'
 cases e'
 exact l
theorem MapW.apart {H:Hp} {m:Addr} {n:Nat} {ps:List Str} {ws:List Way} (h:MapW H m n ps ws) {u:Way} (hu:u ∈ ws):u.1 ≠ u.2.1:=by
 obtain ⟨xs,ws0,pp,wp,wof,_⟩:=h.dr
 obtain ⟨v,hv,rfl⟩:=List.mem_map.mp (wp.mem_iff.mp hu)
 have ne:=(wof v hv).2.2.1
 show minS v.1 v.2.1 ≠ maxS v.1 v.2.1
 unfold minS maxS
 by_cases a:v.2.1.cps.toList < v.1.cps.toList
 ·rw [if_pos a,if_neg (fun z=>lt_irr _ (List.lt_trans a z))]
  exact fun z=>ne z.symm
 ·rw [if_neg a]
  by_cases b:v.1.cps.toList < v.2.1.cps.toList
  ·rw [if_pos b]; exact ne
  ·exact absurd (str_anti a b) ne
end L2
namespace L2
open PySem
theorem for_tupB {K:PySem.W.Frag} {a:Addr} {xs:List V} {g:TG} {tb:TS} {D:Ends} {σ:St} {H:Hp} (Pv:Nat->St->Hp->Prop) (h0:Pv 0 σ H) (hl:∀ i σ H,i<=xs.length->Pv i σ H->SqT K H a xs)
  (hs:∀ i x σ H,xs[i]? = some x->Pv i σ H->∀ (rt:VK) (bk:St->Hp->Prop),g x σ H fun σ2 H2=>tb ⟨Pv (i + 1),rt,bk,Pv (i + 1)⟩ σ2 H2) (hd:∀ σ H,Pv xs.length σ H->D.nx σ H) :
  ∃ W:Nat->Nat->St->Hp->Prop,(∃ m,W 0 m σ H)/\∀ i m σ H,W i m σ H ->
   ((Itt K a).stop i H/\D.nx σ H)\/((Itt K a).go i H/\∃ N:St->Hp->Prop,(∀ σ' H',N σ' H'->∃ m',m' < m/\W (i + 1) m' σ' H')/\∀ x H',(Itt K a).yld i H x H'->g x σ H' fun σ2 H2=>tb { D with nx:=N,ct:=N,bk:=D.nx } σ2 H2):=
 for_tup Pv h0 hl (fun i x σ H hx hp=>hs i x σ H hx hp D.rt D.nx) hd
theorem for_dictB {a:Addr} {kvs:List (Key × V)} {o:Obj} {g:TG} {tb:TS} {D:Ends} {σ:St} {H:Hp} (Pv:Nat->St->Hp->Prop) (h0:Pv 0 σ H) (hl:∀ i σ H,i<=kvs.length->Pv i σ H->H a=some (.frz o (.dK kvs)))
  (hs:∀ i k v σ H,kvs[i]? = some (k,v)->Pv i σ H->∀ (rt:VK) (bk:St->Hp->Prop),g (kV k) σ H fun σ2 H2=>tb ⟨Pv (i + 1),rt,bk,Pv (i + 1)⟩ σ2 H2) (hd:∀ σ H,Pv kvs.length σ H->D.nx σ H) :
  ∃ W:Nat->Nat->St->Hp->Prop,(∃ m,W 0 m σ H)/\∀ i m σ H,W i m σ H ->
   ((Itd a kvs o).stop i H/\D.nx σ H)\/((Itd a kvs o).go i H/\∃ N:St->Hp->Prop,(∀ σ' H',N σ' H'->∃ m',m' < m/\W (i + 1) m' σ' H')/\∀ x H',(Itd a kvs o).yld i H x H'->g x σ H' fun σ2 H2=>tb { D with nx:=N,ct:=N,bk:=D.nx } σ2 H2):=
 for_dict Pv h0 hl (fun i k v σ H hx hp=>hs i k v σ H hx hp D.rt D.nx) hd
theorem for_tupN {K:PySem.W.Frag} {a:Addr} {xs:List V} {g:TG} {tb:TS} {D:Ends} {σ:St} {H:Hp} (Pv:Nat->St->Hp->Prop) (h0:Pv 0 σ H) (hl:∀ i σ H,i<=xs.length->Pv i σ H->SqT K H a xs)
  (hs:∀ i x σ H,xs[i]? = some x->Pv i σ H->∀ (rt:VK) (bk N:St->Hp->Prop),(∀ σ H,Pv (i + 1) σ H->N σ H)->g x σ H fun σ2 H2=>tb ⟨N,rt,bk,N⟩ σ2 H2) (hd:∀ σ H,Pv xs.length σ H->D.nx σ H) :
  ∃ W:Nat->Nat->St->Hp->Prop,(∃ m,W 0 m σ H)/\∀ i m σ H,W i m σ H ->
   ((Itt K a).stop i H/\D.nx σ H)\/((Itt K a).go i H/\∃ N:St->Hp->Prop,(∀ σ' H',N σ' H'->∃ m',m' < m/\W (i + 1) m' σ' H')/\∀ x H',(Itt K a).yld i H x H'->g x σ H' fun σ2 H2=>tb { D with nx:=N,ct:=N,bk:=D.nx } σ2 H2):=
 for_tup Pv h0 hl (fun i x σ H hx hp=>hs i x σ H hx hp D.rt D.nx _ fun _ _ z=>z) hd
theorem for_listN {K:PySem.W.Frag} {a:Addr} {xs:List V} {g:TG} {tb:TS} {D:Ends} {σ:St} {H:Hp} (Pv:Nat->St->Hp->Prop) (h0:Pv 0 σ H) (hl:∀ i σ H,i<=xs.length->Pv i σ H->SqL K H a xs)
  (hs:∀ i x σ H,xs[i]? = some x->Pv i σ H->∀ (rt:VK) (bk N:St->Hp->Prop),(∀ σ H,Pv (i + 1) σ H->N σ H)->g x σ H fun σ2 H2=>tb ⟨N,rt,bk,N⟩ σ2 H2) (hd:∀ σ H,Pv xs.length σ H->D.nx σ H) :
  ∃ W:Nat->Nat->St->Hp->Prop,(∃ m,W 0 m σ H)/\∀ i m σ H,W i m σ H ->
   ((Itl K a).stop i H/\D.nx σ H)\/((Itl K a).go i H/\∃ N:St->Hp->Prop,(∀ σ' H',N σ' H'->∃ m',m' < m/\W (i + 1) m' σ' H')/\∀ x H',(Itl K a).yld i H x H'->g x σ H' fun σ2 H2=>tb { D with nx:=N,ct:=N,bk:=D.nx } σ2 H2):=
 for_list Pv h0 hl (fun i x σ H hx hp=>hs i x σ H hx hp D.rt D.nx _ fun _ _ z=>z) hd
end L2
namespace L2
open PySem PySem.Spec PyProof.Rows
section
variable {X:Cx} {pins:List (Addr × Obj)} {σ σ':St} {H H':Hp} {s2 s':Shared} {scope:Scope} {cl:List (Str × Addr)} {N:List Str} {fp:List Addr} {C D:Addr} {h₁ h':Heap} {t':Nat}
end
end L2
namespace L2
open PySem PySem.Spec PySem.W PyProof.Rows
end L2
namespace L2
open PySem PySem.Spec PyProof.Rows
theorem call_len_seqK (K:PySem.W.Frag) {X:Cx} (h:X.K=K):CallR X (.builtin "len") (fun xs H Q=>∃ p vs,xs=[V.ref p]/\(SqL K H p vs\/SqT K H p vs)/\Q (.int vs.length) H):=by subst h; exact call_len_seq
theorem pi_listK (K:PySem.W.Frag) {X:Cx} {tg l:Expr} {tl:TE} (h:X.K=K) (hl:PE X l tl):PI X tg l (iList K tl):=by subst h; exact pi_list hl
theorem pi_tupK (K:PySem.W.Frag) {X:Cx} {tg l:Expr} {tl:TE} (h:X.K=K) (hl:PE X l tl):PI X tg l (iTup K tl):=by subst h; exact pi_tup hl
def TxAt (h:Heap) (v:Value) (ss:List Str):Prop:=∃ a us,v=.ref a/\IsTup h a us.toArray/\Vals (ss.map V.str) us
theorem vals_strs {us vs:List Value} {xs:List Str} (r1:Vals (xs.map V.str) us) (j:Nat) (hj:j < us.length):∃ t x,xs[j]? = some x/\us[j]=.str x t:=by
 have l1:=r1.length
 rw [List.length_map] at l1
 have e:(xs.map V.str)[j]? = some (V.str (xs[j]'(by (first|lia|omega)))):=by rw [List.getElem?_map,List.getElem?_eq_getElem (by (first|lia|omega))]; rfl
 obtain ⟨u,e1,r⟩:=r1.get e
 obtain ⟨t,rfl⟩:=r
 rw [List.getElem?_eq_getElem hj] at e1
 exact ⟨t,_,List.getElem?_eq_getElem (by (first|lia|omega)),Option.some.inj e1⟩
theorem vals_uniq {us:List Value}:∀ {xs ys:List Str},Vals (xs.map V.str) us->Vals (ys.map V.str) us->xs=ys:=by
 induction us with
 | nil=>
  intro xs ys r1 r2
  cases xs with
  | nil=>cases ys with | nil=>rfl | cons _ _=>cases r2
  | cons _ _=>cases r1
 | cons u us ih=>
  intro xs ys r1 r2
  cases xs with
  | nil=>cases r1
  | cons x xs=>
   cases ys with
   | nil=>cases r2
   | cons y ys=>
    cases r1 with
    | cons a1 b1=>
     cases r2 with
     | cons a2 b2=>
      obtain ⟨t,e⟩:=a1
      obtain ⟨t',e'⟩:=a2
      rw [e] at e'
      cases e'
      rw [ih b1 b2]
theorem eq_strs {A:Around} {s:Shared} {v w:Value} {xs ys:List Str} (hv:TxAt s.heap v xs) (hw:TxAt s.heap w ys) (hu:A.units < cLine):SeqAt.EqAt A s v w (decide (xs=ys)):=by
 obtain ⟨a,us,rfl,ha,r1⟩:=hv
 obtain ⟨b,vs,rfl,hb,r2⟩:=hw
 by_cases hab:a=b
 ·subst hab
  have e:xs=ys:=by
   obtain ⟨o,ho,hc,n,hd⟩:=ha
   obtain ⟨o',ho',hc',n',hd'⟩:=hb
   rw [ho] at ho'
   cases ho'
   rw [hd] at hd'
   injection hd' with e1 e2
   have e3:=congrArg Array.toList e1
   simp only at e3
   subst e3
   exact vals_uniq r1 r2
  rw [decide_eq_true e]
  intro prog w E Q h
  unfold eqBool
  refine wpAny_holding ?_
  exact wpAny_ite_split (fun _=>wpAny_bind (wpAny_rule (wpAny_pure h))) (fun hn=>absurd (by simp) hn)
 ·have l1:=r1.length
  have l2:=r2.length
  rw [List.length_map] at l1 l2
  have key:=SeqAt.RcAt.tuples (A:=A) (s:=s) (e:=fun j=>xs[j]? == ys[j]?) (show s.heap.IsTuple a us.toArray from ha) (show s.heap.IsTuple b vs.toArray from hb) hu (fun j h1 h2=>by
   obtain ⟨t,x,e1,e2⟩:=vals_strs (vs:=us) r1 j (by simpa using h1)
   obtain ⟨t',y,e3,e4⟩:=vals_strs (vs:=vs) r2 j (by simpa using h2)
   rw [List.getElem_toArray,List.getElem_toArray,e2,e4,e1,e3]
   have:=SeqAt.EqAt.str_str x t y t' (A:=A.in1) (s:=s)
   exact this)
  have e:((List.range (min us.toArray.size vs.toArray.size)).all (fun j=>xs[j]? == ys[j]?) && us.toArray.size == vs.toArray.size)=decide (xs=ys):=by
   rw [Bool.eq_iff_iff,Bool.and_eq_true,List.all_eq_true,decide_eq_true_iff]
   simp only [List.mem_range,List.size_toArray,beq_iff_eq]
   constructor
   ·rintro ⟨h1,h2⟩
    refine List.ext_getElem? fun j=>?_
    by_cases hj:j < us.length
    ·exact h1 j (by (first|lia|omega))
    ·rw [List.getElem?_eq_none (by (first|lia|omega)),List.getElem?_eq_none (by (first|lia|omega))]
   ·rintro rfl
    exact ⟨fun j _=>rfl,by (first|lia|omega)⟩
  rw [e] at key
  exact SeqAt.EqAt.of_refs hab key
section
open PySem.SeqAt
open PySem.AutoSeq1 (wpAny_loadPart')
open PySem.MeetsSeq PySem.MeetsSeq2 PySem.MeetsSeq3
end
section
open PySem.SeqAt
open PySem.AutoSeq1 (wpAny_loadPart')
open PySem.MeetsSeq PySem.MeetsSeq2 PySem.MeetsSeq3
end
section
variable {prog:Program} {w:World} {A:Around} {R:Result->Shared->Prop} {I:Addr} {fp wr:List Addr} {n:Nat} {P:Nat->Value->Prop} {St:Nat->Heap->Prop} {g0:Heap}
end
section
variable {prog:Program} {w:World} {A:Around} {E:Value->Shared->Prop} {s:Shared}
end
theorem tx_at {X:Cx} {pins:List (Addr × Obj)} {σ:St} {H:Hp} {s:Shared} {l:Addr} {ss:List Str} (I:Inv X pins σ H s) (h:H l=some (.tup (ss.map V.str))):TxAt s.heap (.ref l) ss:=by
 obtain ⟨its,rv,pl,hz⟩:=I.tuple (SqT.of h)
 exact ⟨l,its,rfl,pl,rv⟩
section
variable {X:Cx} {pins:List (Addr × Obj)} {σ:St} {H:Hp} {s:Shared}
end
theorem op_catTK (K:PySem.W.Frag) {X:Cx} (h:X.K=K):OpR X (binaryOp .Add) (rCatT K):=by subst h; exact op_catT
inductive Tups (H:Hp):List V->List (List Str)->Prop
 | nil:Tups H [] []
 | cons {t:Addr} {us:List V} {f:List Str} {fs:List (List Str)}:H t=some (.tup (f.map V.str))->Tups H us fs->Tups H (.ref t :: us) (f :: fs)
theorem Tups.len {H:Hp} {us:List V} {fs:List (List Str)} (h:Tups H us fs):us.length=fs.length:=by
 induction h with
 | nil=>rfl
 | cons _ _ ih=>rw [List.length_cons,List.length_cons,ih]
theorem Tups.keep {H H':Hp} {us:List V} {fs:List (List Str)} (h:Tups H us fs) (s:∀ b xs,H b=some (.tup xs)->H' b=some (.tup xs)):Tups H' us fs:=by
 induction h with
 | nil=>exact .nil
 | cons a _ ih=>exact .cons (s _ _ a) ih
theorem Tups.app {H:Hp} {us vs:List V} {fs gs:List (List Str)} (h:Tups H us fs) (h':Tups H vs gs):Tups H (us ++ vs) (fs ++ gs):=by
 induction h with
 | nil=>exact h'
 | cons a _ ih=>exact .cons a ih
theorem Tups.get {H:Hp} {us:List V} {fs:List (List Str)} (h:Tups H us fs):∀ {i:Nat} {u:V},us[i]? = some u->∃ t f,u=.ref t/\fs[i]? = some f/\H t=some (.tup (f.map V.str)):=by
 induction h with
 | nil=>intro i u e; simp at e
 | cons a _ ih=>
  intro i u e
  cases i with
  | zero=>simp at e; subst e; exact ⟨_,_,rfl,rfl,a⟩
  | succ i=>exact ih (by simpa using e)
def rCatTA (K:PySem.W.Frag):R2:=fun x y H Q=>∃ a b xs ys,x=.ref a/\y=.ref b/\SqT K H a xs/\SqT K H b ys/\xs.length + ys.length<=sizeLine /\
 (xs=[]->Q (.ref b) H)/\(xs ≠ []->ys=[]->Q (.ref a) H)/\(xs ≠ []->ys ≠ []->∀ p,H p=none->Q (.ref p) (upd H p (.tup (xs ++ ys))))
theorem op_catTA (K:PySem.W.Frag) {X:Cx} (hK:X.K=K):OpR X (binaryOp .Add) (rCatTA K):=by
 subst hK
 intro pins s σ H x y v u Q I rx ry h
 obtain ⟨a,b,xs,ys,rfl,rfl,ha,hb,hz,q0,q1,q2⟩:=h
 cases rx
 cases ry
 obtain ⟨its,r1,p1,_⟩:=I.tuple ha
 obtain ⟨its2,r2,p2,_⟩:=I.tuple hb
 by_cases hx:xs=[]
 ·obtain ⟨⟨cls,dd,data,sl⟩,ho,hc,n,hd⟩:=id p1
  obtain ⟨⟨cls2,dd2,data2,sl2⟩,ho2,hc2,n2,hd2⟩:=id p2
  simp only at hc hd hc2 hd2
  subst hc hd hc2 hd2
  exact concat_meets ⟨_,ho,rfl⟩ ⟨_,ho2,rfl⟩ noFill_tuple_add seq_tuple_add PySem.F.slot_tuple_add PySem.F.entry_tuple_add (PySem.F.args_tuple_add_2 _ _)
   (tuple_addW0 a b its.toArray its2.toArray n n2 dd dd2 sl sl2 (by simp [r1.nil_iff.mpr hx])) ⟨ho,ho2,⟨.ref b,H,I,rfl,q0 hx⟩⟩
 ·refine HT.cat_tup p1 p2 (fun z=>hx (r1.nil_iff.mp z)) (fun z=>⟨.ref a,H,I,rfl,q1 hx (r2.nil_iff.mp z)⟩) (fun z=>?_) (by rw [<-r1.length,<-r2.length]; exact hz)
  refine ⟨.ref s.heap.objs.size,_,I.laid (t':=s.toks) (o:=.tup (xs ++ ys)) (fun b ob q=>Heap.get?_push_of_some _ q) (Nat.le_refl _) ?_,rfl,q2 hx (fun w=>z (r2.nil_iff.mpr w)) _ (I.hok.fresh (Nat.le_refl _))⟩
  exact ⟨by rw [List.length_append]; exact hz,_,r1.append r2,IsTup.new _ _,TupD.new rfl rfl⟩
theorem call_min_ints {X:Cx} (hc:X.calm=true):CallR X (.builtin "min") (fun xs H Q=>∃ (a:Addr) (ns:List Int),xs=[.ref a]/\H a=some (.lst (ns.map V.int))/\ns ≠ [] /\
  ∀ m,m ∈ ns->(∀ x ∈ ns,m<=x)->Q (.int m) H):=by
 intro pins s σ H xs us Q I r h
 obtain ⟨a,ns,rfl,ha,hne,q⟩:=h
 obtain ⟨u,rfl,ru⟩:=vals1 r
 cases ru
 obtain ⟨its,rv,pl,hz⟩:=I.list (SqL.of ha)
 have il:its.length=ns.length:=by rw [<-rv.length,List.length_map]
 have pos:0 < ns.length:=List.length_pos_iff.mpr hne
 refine min_listH (bt:=fun i j=>decide (ns.getD i 0 < ns.getD j 0)) (I.ok.hd hc) pl.isList (by (first|lia|omega)) (fun i j vi vj s' Q' E' g hi hj hQ=>?_) fun v h2 tk hv k2=>?_
 ·obtain ⟨x,t,e1,rfl⟩:=ints_at rv i vi hi
  obtain ⟨y,u,e2,rfl⟩:=ints_at rv j vj hj
  dsimp only at hQ
  rw [List.getD_eq_getElem?_getD,List.getD_eq_getElem?_getD,e1,e2] at hQ
  exact LtAt.int _ _ _ _ _ _ _ _ _ _ hQ
 ·obtain ⟨x,t,e1,rfl⟩:=ints_at rv _ v hv
  obtain ⟨b1,b2⟩:=argBest_le (fun i j=>decide (ns.getD i 0 < ns.getD j 0)) (fun i=>ns.getD i 0) (fun i j h=>by have:=of_decide_eq_true h; (first|lia|omega)) (fun i j h=>by have:=of_decide_eq_false h; (first|lia|omega)) (its.length - 1)
  refine ⟨.int x,H,I.kept k2,⟨t,rfl⟩,q x (List.mem_of_getElem? e1) fun y hy=>?_⟩
  obtain ⟨j,hj,rfl⟩:=List.getElem_of_mem hy
  have:=b2 j (by (first|lia|omega))
  have e2:ns.getD j 0=ns[j]:=by simp [hj]
  have e3:ns.getD (argBest (fun i j=>decide (ns.getD i 0 < ns.getD j 0)) (its.length - 1)) 0=x:=by
   rw [List.getD_eq_getElem?_getD,e1]; rfl
  rw [e2,e3] at this
  exact this
def FarsAt (H:Hp) (v:V) (xs:List Str) (ws:List Way) (s:Str):Prop:=∃ (B:Addr) (nb:List (Str × V)),v=.ref B/\H B=some (.dK (sK nb))/\nb.map (·.1)=xs/\∀ y u,(y,u) ∈ nb->∃ n,u=.int n/\Dst ws s y n
theorem FarsAt.same {H H':Hp} {v:V} {xs:List Str} {ws:List Way} {s:Str} (h:FarsAt H v xs ws s) (sm:Same H H'):FarsAt H' v xs ws s:=let ⟨B,nb,a,b,c⟩:=h; ⟨B,nb,a,sm _ _ b,c⟩
def spSiteFars:Sp:=fun vs H Q _=>∃ (c m:Addr) (n:Nat) (xs:List Str) (ws:List Way) (rs1 rs2:List Row) (x:V) (d:PyData),vs=[.ref c]/\CaseW H c m n xs ws rs1 rs2 x d /\
 ∀ (H':Hp) (D:Addr) (nv:List (Str × V)),Same H H'->H D=none->H' D=some (.dK (sK nv))->nv.map (·.1)=rs1.map (·.1)->(∀ s v,(s,v) ∈ nv->FarsAt H' v xs ws s)->Q (.ref D) H'
theorem read_dmap {J:It} {xs:List V} {S:Hp->Prop} {g:TG} {tk tv:TE} {H:Hp} {σ0:St} {R:Addr->Hp->Prop} (ov:Over J xs S) (ks:List Str) (hk:ks.length=xs.length) (nd:ks.Nodup) (I:Addr->Nat->St->Hp->List (Str × V)->Prop) (big:xs.length < sizeLine)
  (h0:∀ D,H D=none->I D 0 σ0 (upd H D (.dK (sK []))) [])
  (hs:∀ D i σ H' nv,H D=none->I D i σ H' nv->S H'/\H' D=some (.dK (sK nv))/\nv.map (·.1)=ks.take i)
  (turn:∀ D i σ H' nv x k (B:St->V->V->Hp->Prop),H D=none->xs[i]? = some x->ks[i]? = some k->I D i σ H' nv->(∀ σ2 v H6,H6 D=some (.dK (sK nv))->I D (i + 1) σ2 (upd H6 D (.dK (sK (nv ++ [(k,v)])))) (nv ++ [(k,v)])->B σ2 (.str k) v H6) ->
   g x σ H' fun σ2 H3=>tk σ2 H3 fun y H5=>tv σ2 H5 fun v H6=>B σ2 y v H6)
  (fin:∀ D σ H' nv,H D=none->I D xs.length σ H' nv->R D H') :
  ∀ D,H D=none->∃ W:Nat->Nat->St->Hp->Prop,(∃ m,W 0 m σ0 (upd H D (.dK []))) /\
   ∀ i m σ' H',W i m σ' H'->(J.stop i H'/\R D H')\/(J.go i H'/\∀ x H2,J.yld i H' x H2->g x σ' H2 fun σ2 H3=>tYes σ2 H3 fun b H4=>
    if b=true then tk σ2 H4 (fun y H5=>tv σ2 H5 fun v H6=>∃ kvs k,y=kV k/\H6 D=some (.dK kvs)/\kvs.length < sizeLine/\∃ m',m' < m/\W (i + 1) m' σ2 (upd H6 D (.dK (putK kvs k v)))) else ∃ m',m' < m/\W (i + 1) m' σ2 H4):=by
 intro D hD
 refine ⟨fun i m σ H'=>m=xs.length - i/\i<=xs.length/\∃ nv,I D i σ H' nv,⟨xs.length,rfl,Nat.zero_le _,[],h0 D hD⟩,?_⟩
 rintro i m σ H' ⟨rfl,hi,nv,p⟩
 obtain ⟨s1,s2,s3⟩:=hs D i σ H' nv hD p
 by_cases hlt:i < xs.length
 ·refine .inr ⟨ov.go i H' s1 hlt,fun x H2 y=>?_⟩
  obtain ⟨rfl,ex⟩:=ov.yld i H' x H2 s1 y
  have hki:i < ks.length:=by (first|lia|omega)
  have ek:ks[i]? = some ks[i]:=List.getElem?_eq_getElem hki
  have nin:ks[i] ∉ nv.map (·.1):=by
   rw [s3]
   intro hm2
   obtain ⟨j,hj,e⟩:=List.getElem_of_mem hm2
   rw [List.length_take] at hj
   rw [List.getElem_take] at e
   have:=nd_ix nd (List.getElem?_eq_getElem (show j < ks.length by (first|lia|omega))) (by rw [ek,e])
   (first|lia|omega)
  have nl:nv.length=i:=by
   have:=congrArg List.length s3
   rw [List.length_map,List.length_take] at this
   (first|lia|omega)
  have e:∀ (F:St->V->V->Hp->Prop) (G:St->Hp->Prop),(fun (σ2:St) (H3:Hp)=>tYes σ2 H3 fun b H4=>if b=true then tk σ2 H4 (fun y H5=>tv σ2 H5 fun v H6=>F σ2 y v H6) else G σ2 H4)=fun σ2 H3=>tk σ2 H3 (fun y H5=>tv σ2 H5 fun v H6=>F σ2 y v H6):=by
   intro F G
   funext σ2 H3
   show (if true=true then tk σ2 H3 (fun y H5=>tv σ2 H5 fun v H6=>F σ2 y v H6) else G σ2 H3)=_
   rw [if_pos rfl]
  rw [e (fun σ2 y v H6=>∃ kvs k,y=kV k/\H6 D=some (.dK kvs)/\kvs.length < sizeLine/\∃ m',m' < xs.length - i/\(m'=xs.length - (i + 1)/\i + 1<=xs.length/\∃ nv',I D (i + 1) σ2 (upd H6 D (.dK (putK kvs k v))) nv')) (fun σ2 H4=>∃ m',m' < xs.length - i/\(m'=xs.length - (i + 1)/\i + 1<=xs.length/\∃ nv',I D (i + 1) σ2 H4 nv'))]
  refine turn D i σ H2 nv x ks[i] _ hD ex ek p fun σ2 v H6 d6 p6=>?_
  exact ⟨_,Sum.inr ks[i],rfl,d6,by rw [sK_len]; (first|lia|omega),xs.length - (i + 1),by (first|lia|omega),rfl,hlt,nv ++ [(ks[i],v)],by rw [sK_new nin]; exact p6⟩
 ·have e:i=xs.length:=by (first|lia|omega)
  subst e
  exact .inl ⟨ov.stop H' s1,fin D σ H' nv hD p⟩
theorem zip_snoc {α β:Type} {b:β}:∀ {as:List α} {bs:List β} {a:α},as[bs.length]? = some a->as.zip (bs ++ [b])=as.zip bs ++ [(a,b)]
 | [],bs,a,h=>by simp at h
 | x :: as,[],a,h=>by simp at h; subst h; simp
 | x :: as,y :: bs,a,h=>by
  have:=zip_snoc (as:=as) (bs:=bs) (b:=b) (a:=a) (by simpa using h)
  simp [this]
theorem read_rng {n:Nat} {g:TG} {te:TE} {H:Hp} {σ0:St} {R:Addr->Hp->Prop} (I:Addr->Nat->St->Hp->List V->Prop) (big:n < sizeLine)
  (h0:∀ D,H D=none->I D 0 σ0 (upd H D (.lst [])) [])
  (hs:∀ D i σ H' acc,H D=none->I D i σ H' acc->H' D=some (.lst acc)/\acc.length=i)
  (turn:∀ D i σ H' acc (B:St->V->Hp->Prop),H D=none->i < n->I D i σ H' acc->(∀ σ2 v H5,H5 D=some (.lst acc)->I D (i + 1) σ2 (upd H5 D (.lst (acc ++ [v]))) (acc ++ [v])->B σ2 v H5)->g (.int (0 + (i:Int))) σ H' fun σ2 H3=>te σ2 H3 (B σ2))
  (fin:∀ D σ H' acc,H D=none->I D n σ H' acc->R D H') :
  ∀ D,H D=none->∃ W:Nat->Nat->St->Hp->Prop,(∃ m,W 0 m σ0 (upd H D (.lst []))) /\
   ∀ i m σ' H',W i m σ' H'->((Itr 0 n).stop i H'/\R D H')\/((Itr 0 n).go i H'/\∀ x H2,(Itr 0 n).yld i H' x H2->g x σ' H2 fun σ2 H3=>tYes σ2 H3 fun b H4=>
    if b=true then te σ2 H4 (fun v H5=>∃ acc,H5 D=some (.lst acc)/\acc.length < sizeLine/\∃ m',m' < m/\W (i + 1) m' σ2 (upd H5 D (.lst (acc ++ [v])))) else ∃ m',m' < m/\W (i + 1) m' σ2 H4):=by
 intro D hD
 refine ⟨fun i m σ H'=>m=n - i/\i<=n/\∃ acc,I D i σ H' acc,⟨n,rfl,Nat.zero_le _,[],h0 D hD⟩,?_⟩
 rintro i m σ H' ⟨rfl,hi,acc,p⟩
 obtain ⟨s2,s3⟩:=hs D i σ H' acc hD p
 by_cases hlt:i < n
 ·refine .inr ⟨hlt,fun x H2 ⟨e1,e2⟩=>?_⟩
  subst e1 e2
  have e:∀ (F:St->V->Hp->Prop) (G:St->Hp->Prop),(fun (σ2:St) (H3:Hp)=>tYes σ2 H3 fun b H4=>if b=true then te σ2 H4 (F σ2) else G σ2 H4)=fun σ2 H3=>te σ2 H3 (F σ2):=by
   intro F G
   funext σ2 H3
   show (if true=true then te σ2 H3 (F σ2) else G σ2 H3)=_
   rw [if_pos rfl]
  rw [e (fun σ2 v H5=>∃ acc,H5 D=some (.lst acc)/\acc.length < sizeLine/\∃ m',m' < n - i/\(m'=n - (i + 1)/\i + 1<=n/\∃ acc',I D (i + 1) σ2 (upd H5 D (.lst (acc ++ [v]))) acc')) (fun σ2 H4=>∃ m',m' < n - i/\(m'=n - (i + 1)/\i + 1<=n/\∃ acc',I D (i + 1) σ2 H4 acc'))]
  refine turn D i σ H2 acc _ hD hlt p fun σ2 v H5 d5 p5=>?_
  exact ⟨acc,d5,by (first|lia|omega),n - (i + 1),by (first|lia|omega),rfl,hlt,_,p5⟩
 ·have e:i=n:=by (first|lia|omega)
  subst e
  exact .inl ⟨Nat.le_refl _,fin D σ H' acc hD p⟩
theorem slice_low {z:Str} (l u:Option Int) (h:Low z):Low (Txt.slice z l u):=by
 unfold Txt.slice
 split
 ·exact h
 ·intro c hc
  have hc':c ∈ (Builtin.Str.strSliceIndices l u 1 z.length).filterMap (z.cps[·]?):=by simpa using hc
  obtain ⟨i,_,e⟩:=List.mem_filterMap.mp hc'
  exact h c (by rw [Array.mem_toList_iff]; exact Array.mem_of_getElem? e)
theorem slice_to {z:Str} {a:Int} (h0:0<=a) (h1:a<=z.length):(Txt.slice z none (some a)).length<=a.toNat:=by
 have e:(Builtin.Str.strSliceIndices none (some a) 1 z.length).length=a.toNat:=by
  unfold Builtin.Str.strSliceIndices sliceRange
  simp only [show (1:Int) > 0 by decide,if_true,List.length_map,List.length_range]
  (split <;> (try split) <;> (try split) <;> (try simp only [Int.ediv_one]) <;> (first|lia|omega))
 unfold Txt.slice
 split
 ·rename_i q
  rw [e] at q
  have:a.toNat=z.length:=by simpa using q
  (first|lia|omega)
 ·show (List.filterMap _ (Builtin.Str.strSliceIndices none (some a) 1 z.length)).toArray.size<=_
  rw [List.size_toArray,<-e]
  exact List.length_filterMap_le _ _
theorem slice_from {z:Str} {a:Int} (h0:0<=a) (h1:a<=z.length):(Txt.slice z (some a) none).length<=z.length - a.toNat:=by
 have e:(Builtin.Str.strSliceIndices (some a) none 1 z.length).length=z.length - a.toNat:=by
  unfold Builtin.Str.strSliceIndices sliceRange
  simp only [show (1:Int) > 0 by decide,if_true,List.length_map,List.length_range]
  (split <;> (try split) <;> (try split) <;> (try simp only [Int.ediv_one]) <;> (first|lia|omega))
 unfold Txt.slice
 split
 ·rename_i q
  rw [e] at q
  have:z.length - a.toNat=z.length:=by simpa using q
  (first|lia|omega)
 ·show (List.filterMap _ (Builtin.Str.strSliceIndices (some a) none 1 z.length)).toArray.size<=_
  rw [List.size_toArray,<-e]
  exact List.length_filterMap_le _ _
theorem op_fdivB {X:Cx}:OpR X (binaryOp .FloorDiv) (rI (fun _ j=>0 < j/\j < 2 ^ 600) fun i j=>.int (i / j)):=opI fun i j _ _ _ _ _ hc q=>by
 have h1:(0:Int) < j:=hc.1
 have h2:j < 2 ^ 600:=hc.2
 refine floordiv_int (by (first|lia|omega)) (by rw [Int.fdiv_eq_ediv_of_nonneg i (by (first|lia|omega))]; exact q) (.inl (PyProof.noPylong_of_log2 ?_))
 have hn:j.natAbs < 2 ^ 600:=by (first|lia|omega)
 have:j.natAbs.log2 < 600:=(Nat.log2_lt (by (first|lia|omega))).mpr hn
 (first|lia|omega)
theorem op_rep01 {X:Cx}:OpR X (binaryOp .Mult) (fun x y H Q=>∃ z n,x=.str z/\y=.int n/\(n=0\/n=1)/\Q (.str (if n=1 then z else Str.empty)) H):=by
 intro pins s σ H x y v u Q I rx ry h
 obtain ⟨z,n,rfl,rfl,hn,q⟩:=h
 obtain ⟨t,rfl⟩:=rx
 obtain ⟨t',rfl⟩:=ry
 rcases hn with rfl | rfl
 ·exact PySem.P.mul_str_none (by decide) (by decide) ⟨.str Str.empty,H,I.tok _,⟨_,rfl⟩,q⟩
 ·refine PySem.P.mul_str (by decide) (fun _ z=>by simp at z) (fun _ z=>by simp at z) ?_
  rw [if_neg (by decide),if_pos (by simp)]
  exact ⟨.str z,H,I,⟨_,rfl⟩,q⟩
theorem sl_tupK (K:PySem.W.Frag) {X:Cx} (h:X.K=K):SlR X (rSlT K):=by subst h; exact sl_tup
theorem op_notIn_tups {X:Cx} (hu:X.A.units + 64 < cLine):OpR X (compareOp .NotIn) (fun x y H Q=>∃ (t p:Addr) (ss:List Str) (us:List V) (fs:List (List Str)),x=.ref t/\y=.ref p/\H t=some (.tup (ss.map V.str))/\H p=some (.lst us)/\Tups H us fs/\Q (.bl (!(decide (ss ∈ fs)))) H):=by
 intro pins s σ H x y v u Q I rx ry h
 obtain ⟨t,p,ss,us,fs,rfl,rfl,ht,hp,tU,q⟩:=h
 cases rx
 cases ry
 obtain ⟨its,r,pl,hz⟩:=I.list (SqL.of hp)
 have tx:=tx_at I ht
 have ats:∀ {us:List V} {its:List Value} {fs:List (List Str)},Vals us its->Tups H us fs->(∀ w ∈ its,∃ f,f ∈ fs/\TxAt s.heap w f)/\∀ f ∈ fs,∃ w ∈ its,TxAt s.heap w f:=by
  intro us
  induction us with
  | nil=>intro its fs r tU; cases r; cases tU; exact ⟨(fun w hw=>nomatch hw),fun f hf=>nomatch hf⟩
  | cons v us ih=>
   intro its fs r tU
   cases r with
   | cons r1 r2=>
    cases tU with
    | cons a b=>
     cases r1
     obtain ⟨i1,i2⟩:=ih r2 b
     have t1:=tx_at I a
     refine ⟨fun w hw=>?_,fun f hf=>?_⟩
     ·rcases List.mem_cons.mp hw with rfl | hw
      ·exact ⟨_,List.mem_cons_self,t1⟩
      ·obtain ⟨f,h1,h2⟩:=i1 w hw
       exact ⟨f,List.mem_cons_of_mem _ h1,h2⟩
     ·rcases List.mem_cons.mp hf with rfl | hf
      ·exact ⟨_,List.mem_cons_self,t1⟩
      ·obtain ⟨w,h1,h2⟩:=i2 f hf
       exact ⟨w,List.mem_cons_of_mem _ h1,h2⟩
 have one:∀ {w:Value} {f g:List Str},TxAt s.heap w f->TxAt s.heap w g->f=g:=fun {w f g} h1 h2=>by
  obtain ⟨a,us1,e1,⟨o,ho,hc,n,hd⟩,r1⟩:=h1
  obtain ⟨b,us2,e2,⟨o',ho',hc',n',hd'⟩,r2⟩:=h2
  rw [e1] at e2
  cases e2
  rw [ho] at ho'
  cases ho'
  rw [hd] at hd'
  injection hd' with e3 e4
  have e5:=congrArg Array.toList e3
  simp only at e5
  subst e5
  exact vals_uniq r1 r2
 classical
 obtain ⟨a1,a2⟩:=ats r tU
 refine SeqAt.notIn_listAt (fun w=>decide (TxAt s.heap w ss)) pl.isList (fun w hw=>?_) ⟨.bl _,H,I,rfl,?_⟩
 ·obtain ⟨f,hf,tf⟩:=a1 w (by simpa using hw)
  have:=eq_strs (A:=X.A.in1) (s:=s) tf tx (by rw [PySem.Around.in1_units]; (first|lia|omega))
  have e:decide (f=ss)=decide (TxAt s.heap w ss):=by
   rw [Bool.eq_iff_iff]
   simp only [decide_eq_true_eq]
   exact ⟨fun e=>e ▸ tf,fun h=>one tf h⟩
  rw [<-e]
  exact this
 ·have e:its.toArray.any (fun w=>decide (TxAt s.heap w ss))=decide (ss ∈ fs):=by
   rw [Bool.eq_iff_iff]
   simp only [List.any_toArray,List.any_eq_true,decide_eq_true_eq]
   constructor
   ·rintro ⟨w,hw,h⟩
    obtain ⟨f,hf,tf⟩:=a1 w hw
    rw [one h tf]
    exact hf
   ·exact fun h=>a2 ss h
  rw [e]
  exact q
section
variable {prog:Program} {w:World} {A:Around} {E:Value->Shared->Prop} {s:Shared}
theorem gather_tup {l:Addr} {vs:List Value} {Q:List Value->Shared->Prop} (hl:s.heap.IsTuple l vs.toArray) (few:vs.toArray.size<=sizeLine)
  (h:∀ h1:Heap,s.heap.objs.size<=h1.objs.size->(∀ b o,s.heap.get? b=some o->h1.get? b=some o)->Q vs { s with heap:=h1 }):wpAny (model prog w) A (collect (.ref l)) Q E s:=by
 obtain ⟨o,ho,hc,n,hd⟩:=hl
 obtain ⟨g,eg⟩:∃ g,g=(s.heap.push { cls:=.type "list",data:=.seq ([]:List Value).toArray }).update s.heap.objs.size (Obj.mapSeq (· ++ vs.toArray)):=⟨_,rfl⟩
 have gS:=Heap.get?_update_self (Obj.mapSeq (· ++ vs.toArray)) (Heap.get?_push_size s.heap (o:={ cls:=.type "list",data:=.seq ([]:List Value).toArray }) rfl) rfl
 rw [<-eg] at gS
 have last:=h g (by rw [eg,Heap.size_update,Heap.size_push]; exact Nat.le_succ _) fun b o' hb=>by
  rw [eg]
  exact (Heap.get?_update_other _ _ (Nat.ne_of_gt (Heap.lt_size hb))).trans (Heap.get?_push_of_some _ hb)
 unfold collect
 refine wpAny_bind (wpAny_runValue (codeAny_builtin PySem.F.entry_proto_collect ?_))
 rw [Around.under_plainId PySem.F.plain_proto_collect _]
 refine wpAny_bind (wpAny_newObj_type (wpAny_pure ⟨plainId_quiet PySem.F.plain_list_iadd _,codeAny_builtin PySem.F.entry_list_iadd ?_⟩))
 rw [Around.under_plainId PySem.F.plain_list_iadd _]
 have fin:∀ s':Shared,s' = { s with heap:=g }->wpAny (model prog w) A (match Value.ref s.heap.objs.size with
   | Value.ref a=>do
    match (<- load a).data with
     | Data.seq xs _=>pure xs.toList
     | _=>unsupported "internal:collect"
   | _=>unsupported "internal:collect") Q E s':=by
  rintro s' rfl
  refine wpAny_bind (wpAny_load gS (wpAny_pure ?_))
  simpa using last
 refine wpAny_mono (wpAny_extend_seq (hsz:=few) (A:=A) (R:=fun r s'=>r=.ok (.ret (.ref s.heap.objs.size))/\s' = { s with heap:=g }) (s:={ s with heap:=s.heap.push { cls:=.type "list",data:=.seq ([]:List Value).toArray } }) _ l _ 0 (.inr rfl) (Heap.get?_push_size _ rfl) (Heap.get?_push_of_some _ ho) hc hd ⟨rfl,by rw [eg]⟩) (fun r s' q=>?_) (fun e s' q=>absurd q.1 (by simp))
 cases r with
 | done f=>
  obtain ⟨e,q⟩:=q
  cases e
  exact fin s' q
 | again c=>exact ⟨q.1,codeAny_mono q.2 fun r s'' z=>by obtain ⟨rfl,z⟩:=z; exact fin s'' z⟩
theorem sorted_tupS {l:Addr} {vs:List Value} {ss:List Str} {Q:Value->Shared->Prop} (hl:s.heap.IsTuple l vs.toArray) (hS:StrsAre vs ss) (h64:vs.length < 64)
  (h:∀ (h':Heap) (a:Addr) (out:Array Value) (ss':List Str) (e:Nat),s.heap.objs.size<=a->(∀ b o,s.heap.get? b=some o->h'.get? b=some o)->h'.get? a=some (seqObj "list" out e)->StrsAre out.toList ss'->ss'.Perm ss->sortedS ss'=true->Q (.ref a) { s with heap:=h' }) :
  wpAny (model prog w) A (call (.builtin "sorted") [.ref l]) Q E s:=by
 have few:vs.toArray.size<=sizeLine:=by rw [List.size_toArray,sizeLine_eq]; (first|lia|omega)
 refine Calls.call_function_entry kind_sorted plain_sorted entry_sorted (args_sorted1 _) ?_
 unfold Builtin.«sorted»
 refine wpAny_bind (m:=checkCount "sorted" 1 1 _) (wpAny_pure (wpAny_bind (gather_tup hl few fun h1 sz k1=>?_)))
 refine wpAny_bind (wpAny_newList ?_ (by simpa using few))
 have lies:(h1.push (seqObj "list" vs.toArray 0)).get? h1.objs.size=some (seqObj "list" vs.toArray 0):=Heap.get?_push_size _ rfl
 refine wpAny_bind (wpAny_holding (wpAny_call_entry slot_list_sort ⟨_,lies,rfl⟩ entry_list_sort (list_sort_treeK (s:={ s with heap:=h1.push (seqObj "list" vs.toArray 0) }) strKind_oneLt lies hS.keysOf (fun v₁ v₂ rest e=>keyKind_strs (by rw [<-e]; exact hS)) h64 fun st' hp hs=>⟨_,rfl,wpAny_pure ⟨_,rfl,?_⟩⟩) (args_list_sort _)))
 obtain ⟨ss',q1,q2,q3⟩:=sorted_out_str hS hp hs
 obtain ⟨e,he⟩:=sortedHeap_at (out:=(arrOf st').map (·.2)) lies
 refine h _ h1.objs.size _ ss' e sz (fun b o z=>?_) he q1 q2 q3
 have hb:=k1 b o z
 rw [sortedHeap_old (Nat.ne_of_lt (Heap.lt_size hb)) (by rw [Heap.size_push]; exact Nat.lt_succ_of_lt (Heap.lt_size hb))]
 exact Heap.get?_push_of_some _ hb
end
theorem call_sorted_two {X:Cx}:CallR X (.builtin "sorted") (fun xs H Q=>∃ (t:Addr) (x y:Str),xs=[.ref t]/\H t=some (.tup [.str x,.str y])/\∀ l,H l=none->Q (.ref l) (upd H l (.lst [.str (minS x y),.str (maxS x y)]))):=by
 intro pins s σ H xs us Q I r h
 obtain ⟨t,x,y,rfl,ht,q⟩:=h
 obtain ⟨u,rfl,ru⟩:=vals1 r
 cases ru
 obtain ⟨its,rv,pl,hz⟩:=I.tuple (SqT.of (show H t=some (.tup ([x,y].map V.str)) from ht))
 have hl:its.length=2:=by rw [<-rv.length]; rfl
 refine sorted_tupS pl (strs_of rv) (by (first|lia|omega)) fun h' a out ss' e ha kp he h1 h2 h3=>?_
 have e2:ss'=[minS x y,maxS x y]:=by
  obtain ⟨x',y',rfl⟩:∃ x' y',ss'=[x',y']:=by
   have:=h2.length_eq
   match ss',this with
   | [a,b],_=>exact ⟨a,b,rfl⟩
  obtain ⟨e1,e2⟩:=two_sorted h2 h3
  rw [e1,e2]
 subst e2
 refine ⟨.ref a,_,I.laid (o:=.lst [.str (minS x y),.str (maxS x y)]) (t':=s.toks) kp ha ⟨by show 2<=sizeLine; decide,out.toList,e,of_strs h1,by simpa using he⟩,rfl,q a (I.hok.fresh ha)⟩
def spPenT (K:PySem.W.Frag):Sp:=fun vs H Q _=>∃ (a:Addr) (ns:List Int) (k:Int),vs=[.ref a,.int k]/\Scr K H a (ns.map V.int)/\0<=k/\∀ (p:Addr) (x y z:Int),H p=none->Q (.ref p) (upd H p (.lst (penL x y z)))
def spTakeT:Sp:=fun vs H Q _=>∃ (p:Addr) (m:Int),vs=[.ref p,.int m]/\PnAt H p/\0 < m/\m < 2 ^ 600/\∀ (d a b c:Int),0<=d->d < m->Q (.int d) (upd H p (.lst (penL a b c)))
def spSomeL:Sp:=fun vs H Q _=>∃ (p e:Addr) (xs:List Str) (most:Int),vs=[.ref p,.ref e,.int most]/\PnAt H p/\H e=some (.lst (xs.map V.str))/\e ≠ p/\1<=xs.length/\xs.length<=30/\1<=most/\most<=30 /\
 ∀ (H':Hp) (D:Addr) (ys zs:List Str),PnAt H' p->Keep p H H'->H D=none->H' D=some (.lst (ys.map V.str))->(ys ++ zs).Perm xs->1<=ys.length->(ys.length:Int)<=most->Q (.ref D) H'
theorem pe_bmK (K:PySem.W.Frag) {X:Cx} (hK:X.K=K) {o e:Expr} {es:List Expr} {to:TE} {t:TA} {name:Str} {apos cpos:Pos} {T id:String} {r:V->List V->Hp->VK->Prop} (pa:PlainAttrs T) (slot:Slot T name id) (hty:typeOf (.builtin id)=pure (.type "method_descriptor")) (hm:MtR X id r) (ho:PE X o to) (ha:PA X (e :: es) t)
  (hbase:attributeBase o name X.env (eval o X.env)=eval o X.env:=by rfl)
  (hfew:((backTo cpos (starEach (e :: es) X.env)).all (fun x=>!x.1) && (backToKw cpos (keywordEach [] X.env)).all (fun x=>x.1.isSome)
   && decide ((e :: es).length + ([]:List Keyword).length + (if ([]:List Keyword).isEmpty then 0 else 1) < 30))=true:=by rfl)
  (hline:(apos.endLine == cpos.line)=true:=by rfl) (hs:starEach (e :: es) X.env=(false,eval e X.env) :: starEach es X.env:=by rfl) (hplain:(backTo cpos (starEach es X.env)).any (·.1)=false:=by rfl) :
  PE X (.Call (.Attribute o name apos) (e :: es) [] cpos) (tBM K T r to t):=by subst hK; exact pe_bm pa slot hty hm ho ha hbase hfew hline hs hplain
theorem WaysC.lens {xs:List Str} {ws ws':List Way} (h:WaysC xs ws) (hl:ws'.length=ws.length) (he:∀ (i:Nat) u u',ws[i]? = some u->ws'[i]? = some u'->u'.1=u.1/\u'.2.1=u.2.1/\1<=u'.2.2):WaysC xs ws':=by
 have at':∀ u' ∈ ws',∃ (i:Nat) (u:Way),ws[i]? = some u/\ws'[i]? = some u'/\u'.1=u.1/\u'.2.1=u.2.1/\1<=u'.2.2:=fun u' hu=>by
  obtain ⟨i,hi⟩:=List.getElem?_of_mem hu
  have hi':=(List.getElem?_eq_some_iff.mp hi).1
  have e:ws[i]? = some (ws[i]'(by (first|lia|omega))):=List.getElem?_eq_getElem _
  exact ⟨i,_,e,hi,he i _ _ e hi⟩
 refine ⟨fun u' hu=>?_,?_,fun j h1 h2=>?_⟩
 ·obtain ⟨i,u,e1,e2,a,b,c⟩:=at' u' hu
  obtain ⟨z1,z2,z3,_⟩:=h.1 u (List.mem_of_getElem? e1)
  rw [a,b]
  exact ⟨z1,z2,z3,c⟩
 ·refine List.pairwise_iff_getElem.mpr fun i j hi hj hij al=>?_
  have e1:ws[i]? = some (ws[i]'(by (first|lia|omega))):=List.getElem?_eq_getElem _
  have e2:ws[j]? = some (ws[j]'(by (first|lia|omega))):=List.getElem?_eq_getElem _
  obtain ⟨a1,b1,_⟩:=he i _ _ e1 (List.getElem?_eq_getElem hi)
  obtain ⟨a2,b2,_⟩:=he j _ _ e2 (List.getElem?_eq_getElem hj)
  refine List.pairwise_iff_getElem.mp h.2.1 i j (by (first|lia|omega)) (by (first|lia|omega)) hij ?_
  unfold Alike at al ⊢
  rw [a1,b1,a2,b2] at al
  exact al
 ·obtain ⟨u,hu,i,hij,e1,e2⟩:=h.2.2 j h1 h2
  obtain ⟨q,hq⟩:=List.getElem?_of_mem hu
  have hq':=(List.getElem?_eq_some_iff.mp hq).1
  have e:ws'[q]? = some (ws'[q]'(by (first|lia|omega))):=List.getElem?_eq_getElem _
  obtain ⟨a,b,_⟩:=he q _ _ hq e
  exact ⟨_,List.mem_of_getElem? e,i,hij,by rw [a]; exact e1,by rw [b]; exact e2⟩
theorem minS_comm (a b:Str):minS a b=minS b a:=by
 unfold minS
 split
 ·rename_i h
  rw [if_neg (fun z=>List.lt_asymm h z)]
 ·rename_i h
  split
  ·rfl
  ·rename_i h'
   exact str_anti h h'
theorem maxS_comm (a b:Str):maxS a b=maxS b a:=by
 unfold maxS
 split
 ·rename_i h
  rw [if_neg (fun z=>List.lt_asymm h z)]
 ·rename_i h
  split
  ·rfl
  ·rename_i h'
   exact (str_anti h h').symm
def pairW (q:Str × Str):Way:=(q.2,q.1,1)
def pairL (q:Str × Str):List Str:=[q.1,q.2]
def spWaysT:Sp:=fun vs H Q _=>∃ (p e:Addr) (xs:List Str) (kd:Int),vs=[.ref p,.ref e,.int kd]/\PnAt H p/\H e=some (.lst (xs.map V.str))/\e ≠ p/\xs.Nodup/\(∀ x ∈ xs,nameB x=true)/\1<=xs.length/\xs.length<=26 /\
 ∀ (H':Hp) (T:Addr) (us:List V) (ws ws0:List Way),PnAt H' p->Keep p H H'->H' T=some (.tup us)->Dats H' us (ws.map wayD)->ws.Perm (ws0.map norm)->WaysC xs ws0->(∀ u ∈ ws0,u.2.2<=9)->ws0.length<=30->Q (.ref T) H'
theorem call_tuple_ofK (K:PySem.W.Frag) {X:Cx} (h:X.K=K):CallR X (.type "tuple") (fun xs H Q=>∃ p ys,xs=[.ref p]/\((SqL K H p ys/\∀ l,H l=none->Q (.ref l) (upd H l (.tup ys)))\/(SqT K H p ys/\Q (.ref p) H))):=by subst h; exact call_tuple_of
end L2
namespace L2
open PySem PySem.Spec PySem.W PyProof.Rows
theorem call_sorted_rowsPK (K:PySem.W.Frag) {X:Cx} (h:X.K=K):CallR X (.builtin "sorted") (fun xs H Q=>∃ (a:Addr) (vs:List V) (rs:List Row),xs=[.ref a]/\SqL K H a vs/\Dats H vs (rs.map rowD) /\
  ∀ (l:Addr) (vs':List V) (rs':List Row),H l=none->Dats H vs' (rs'.map rowD)->rs'.Perm rs->Q (.ref l) (upd H l (.lst vs'))):=by subst h; exact call_sorted_rowsP
theorem call_sorted_waysPK (K:PySem.W.Frag) {X:Cx} (h:X.K=K):CallR X (.builtin "sorted") (fun xs H Q=>∃ (a:Addr) (vs:List V) (ws:List Way),xs=[.ref a]/\SqL K H a vs/\Dats H vs (ws.map wayD) /\
  ∀ (l:Addr) (vs':List V) (ws':List Way),H l=none->Dats H vs' (ws'.map wayD)->ws'.Perm ws->Q (.ref l) (upd H l (.lst vs'))):=by subst h; exact call_sorted_waysP
end L2
namespace L2
open PySem PySem.Spec PyProof.Rows
def tyD:PyData->String
 | .none=>"NoneType"
 | .bool _=>"bool"
 | .int _=>"int"
 | .str _=>"str"
 | .list _=>"list"
 | .tuple _=>"tuple"
 | .dict _=>"dict"
theorem Dat.ty {K:PySem.W.Frag} {H:Hp} {v:V} {d:PyData} (h:Dat H v d):TyOf K H v (.type (tyD d)):=by
 cases h with
 | non=>exact .non
 | bl b=>exact .bl b
 | int i=>exact .int i
 | str x=>exact .str x
 | tup e _=>exact .tup e
 | lst e _=>exact .lst e
theorem TyOf.same {K:PySem.W.Frag} {H H':Hp} {x:V} {t:Value} (h:TyOf K H x t) (s:Same H H'):TyOf K H' x t:=by
 cases h with
 | non=>exact .non
 | bl x=>exact .bl x
 | int i=>exact .int i
 | str x=>exact .str x
 | flt x=>exact .flt x
 | lst e=>exact .lst (s _ _ e)
 | frz e=>exact .frz (s _ _ e)
 | tup e=>exact .tup (s _ _ e)
 | dK e=>exact .dK (s _ _ e)
 | dT e=>exact .dT (s _ _ e)
 | ins e c h1 h2 h3 h4=>exact .ins (s _ _ e) c h1 h2 h3 h4
def NoTup (K:PySem.W.Frag) (H:Hp) (v:V):Prop:=∃ ty,TyOf K H v ty/\PySem.W.kitOne K ty (.type "tuple")=some false
theorem Dat.noTup {K:PySem.W.Frag} {H:Hp} {v:V} {d:PyData} (h:Dat H v d) (n:∀ s,d ≠ .tuple s):NoTup K H v:=by
 refine ⟨_,h.ty,?_⟩
 cases d with
 | tuple s=>exact absurd rfl (n s)
 | _=>rfl
theorem noTup_dict {K:PySem.W.Frag} {H:Hp} {a:Addr} {kvs:List (Key × V)} (h:H a=some (.dK kvs)):NoTup K H (.ref a):=⟨_,.dK h,rfl⟩
theorem Dats.len {H:Hp}:∀ {xs:List V} {ds:List PyData},Dats H xs ds->xs.length=ds.length
 | _,_,.nil=>rfl
 | _,_,.cons _ r=>congrArg (· + 1) r.len
end L2
namespace HT
open PySem PySem.Spec PyProof.Rows
section
variable {prog:Program} {w:World} {A:Around} {E:Value->Shared->Prop} {s:Shared}
end
end HT
namespace L2
open PySem PySem.Spec PyProof.Rows
def tGood (Φ:St->Hp->Prop) (Ψ:Hp->V->Prop):TE:=fun σ H Q=>Φ σ H/\∀ v H',Same H H'->Ψ H' v->Q v H'
def tGoods (Φ:St->Hp->Prop) (Ψ:Hp->V->Prop) (n:Nat):TA:=fun σ H Q=>Φ σ H/\∀ vs H',Same H H'->(∀ v ∈ vs,Ψ H' v)->vs.length=n->Q vs H'
def Stay (Φ:St->Hp->Prop):Prop:=∀ σ H H',Φ σ H->Same H H'->Φ σ H'
def StayV (Ψ:Hp->V->Prop):Prop:=∀ v H H',Ψ H v->Same H H'->Ψ H' v
theorem PE.weak {X:Cx} {e:Expr} {t t':TE} (h:PE X e t) (w:∀ σ H Q,t' σ H Q->t σ H Q):PE X e t':=fun pins s σ H Q I q=>h pins s σ H Q I (w σ H Q q)
theorem pa_good0 {X:Cx} {Φ:St->Hp->Prop} {Ψ:Hp->V->Prop}:PA X [] (tGoods Φ Ψ 0):=fun pos pins s σ H Q I ⟨_,k⟩=>pa_nil pos pins s σ H Q I (k [] H (Same.refl _) (fun v hv=>nomatch hv) rfl)
theorem pa_good {X:Cx} {e:Expr} {es:List Expr} {n:Nat} {Φ:St->Hp->Prop} {Ψ:Hp->V->Prop} (st:Stay Φ) (sv:StayV Ψ) (h:PE X e (tGood Φ Ψ)) (hr:PA X es (tGoods Φ Ψ n)) (hs:starEach (e :: es) X.env=(false,eval e X.env) :: starEach es X.env:=by rfl):PA X (e :: es) (tGoods Φ Ψ (n + 1)):=
 fun pos pins s σ H Q I ⟨a,k⟩=>pa_cons h hr hs pos pins s σ H Q I ⟨a,fun v H1 s1 p1=>⟨st _ _ _ a s1,fun vs H2 s2 p2 l2=>k (v :: vs) H2 (s1.trans s2) (fun u hu=>(List.mem_cons.mp hu).elim (fun e=>e ▸ sv _ _ _ p1 s2) (p2 u)) (congrArg (· + 1) l2)⟩⟩
section
variable {X:Cx} {Φ:St->Hp->Prop} {a b:Expr} {pos:Pos} {n m:Nat}
theorem g_dat {e:Expr} {v:V} {d:PyData} (h:PE X e (tC v)) (hd:∀ H,Dat H v d) {Ψ:Hp->V->Prop} (w:∀ H,Dat H v d->Ψ H v):PE X e (tGood Φ Ψ):=h.weak fun σ H Q ⟨_,k⟩=>k v H (Same.refl _) (w H (hd H))
end
theorem g_var {X:Cx} {Φ:St->Hp->Prop} {Ψ:Hp->V->Prop} {i:Nat} {e:Expr} (hv:PE X e (tVar i)) (h:∀ σ H,Φ σ H->∃ v,σ[i]? = some (some v)/\Ψ H v):PE X e (tGood Φ Ψ):=hv.weak fun σ H Q ⟨f,k⟩=>by
 obtain ⟨v,e,p⟩:=h σ H f
 exact ⟨v,e,k v H (Same.refl _) p⟩
section
variable {Φ:St->Hp->Prop} {n:Nat}
end
theorem op_isnot_bl {X:Cx}:OpR X (compareOp .IsNot) (fun x y H Q=>∃ b c,x=.bl b/\y=.bl c/\Q (.bl (!(b == c))) H):=by
 intro pins s σ H x y v u Q I rx ry h
 obtain ⟨b,c,rfl,rfl,q⟩:=h
 cases rx
 cases ry
 have e:EP X pins σ Q (.bool (!(b == c))) s:=⟨.bl _,H,I,rfl,q⟩
 cases b <;> cases c <;> exact wpAny_pure e
def timesW (m:Int) (u:Way):Way:=(u.1,u.2.1,u.2.2 * m)
theorem PnAt.same {H H':Hp} {p:Addr} (h:PnAt H p) (s:Same H H'):PnAt H' p:=by obtain ⟨_,_,_,z⟩:=h; exact ⟨_,_,_,s _ _ z⟩
theorem map_times {H:Hp} {m:Addr} {t1 t2:Addr} {vs:List V} {xs ps:List Str} {ws ws0:List Way} {mu:Int} (mu1:1<=mu) (mu2:mu<=10 ^ 20)
  (h1:H m=some (.tup [.ref t1,.ref t2])) (h2:H t1=some (.tup (ps.map V.str))) (h3:H t2=some (.tup vs)) (h4:Dats H vs ((ws.map (timesW mu)).map wayD)) (pp:ps.Perm xs) (so:sortedS ps=true) (xnd:xs.Nodup) (xnm:∀ x ∈ xs,nameB x=true)
  (wp:ws.Perm (ws0.map norm)) (wc:WaysC xs ws0) (w9:∀ u ∈ ws0,u.2.2<=9) (wl:ws0.length<=30):MapW H m ps.length ps (ws.map (timesW mu)):=by
 have l:ws.length=ws0.length:=by rw [wp.length_eq,List.length_map]
 refine ⟨⟨⟨t1,t2,vs,h1,h2,h3,h4⟩,rfl,pp.nodup_iff.mpr xnd,fun x hx=>xnm x (pp.mem_iff.mp hx),by rw [List.length_map]; (first|lia|omega),fun u hu=>?_⟩,⟨xs,ws0.map (timesW mu),pp,?_,?_⟩,so,by rw [List.length_map]; (first|lia|omega)⟩
 ·obtain ⟨v,hv,rfl⟩:=List.mem_map.mp hu
  obtain ⟨u,hu0,rfl⟩:=List.mem_map.mp (wp.mem_iff.mp hv)
  obtain ⟨a,b,c,d⟩:=wc.1 u hu0
  have e9:=w9 u hu0
  have n1:=xnm _ a
  have n2:=xnm _ b
  have g1:1<=u.2.2 * mu:=by
   have:=Int.mul_le_mul d mu1 (by decide) (by (first|lia|omega))
   (first|lia|omega)
  have g2:u.2.2 * mu<=9 * 10 ^ 20:=Int.mul_le_mul e9 mu2 (by (first|lia|omega)) (by decide)
  refine ⟨?_,?_,g1,?_⟩
  ·show nameB (norm u).1=true
   rcases norm_ends u with ⟨z,_⟩ | ⟨z,_⟩ <;> rw [z] <;> assumption
  ·show nameB (norm u).2.1=true
   rcases norm_ends u with ⟨_,z⟩ | ⟨_,z⟩ <;> rw [z] <;> assumption
  ·have:(9:Int) * 10 ^ 20 < 10 ^ 30:=by decide
   show u.2.2 * mu < 10 ^ 30
   (first|lia|omega)
 ·have:=wp.map (timesW mu)
  rw [List.map_map] at this ⊢
  exact this
 ·refine wc.lens (by rw [List.length_map]) fun i u u' e1 e2=>?_
  rw [List.getElem?_map,e1] at e2
  cases e2
  refine ⟨rfl,rfl,?_⟩
  obtain ⟨_,_,_,d⟩:=wc.1 u (List.mem_of_getElem? e1)
  show 1<=u.2.2 * mu
  have:=Int.mul_le_mul d mu1 (by decide) (by (first|lia|omega))
  (first|lia|omega)
theorem wide01 (b:Bool):(if b=true then (1:Int) else 0)=0\/(if b=true then (1:Int) else 0)=1:=by cases b <;> simp
theorem lt600 {m:Int} (h:m<=1000):m < 2 ^ 600:=Int.lt_of_le_of_lt h (by decide +kernel)
theorem RowsOk.names {xs ps:List Str} {lo:Int} {rs:List Row} (h:RowsOk xs lo rs) (p:ps.Perm xs):RowsOk ps lo rs:=⟨fun r hr=>p.mem_iff.mpr (h.sub r hr),h.nd,h.lo,h.one⟩
def oI:Option Int->V
 | none=>.non
 | some n=>.int n
def MV (H:Hp) (A:Addr) (G:Str->Str->Option V) (c:Nat):Prop:=∃ kvs:List (List Key × V),H A=some (.dT kvs)/\kvs.length<=c/\∀ x y,valV kvs [Sum.inr x,Sum.inr y]=G x y
theorem MV.same {H H':Hp} {A:Addr} {G:Str->Str->Option V} {c:Nat} (h:MV H A G c) (s:Same H H'):MV H' A G c:=let ⟨kvs,a,b,d⟩:=h; ⟨kvs,s _ _ a,b,d⟩
theorem MV.up {H:Hp} {A:Addr} {G:Str->Str->Option V} {c c':Nat} (h:MV H A G c) (l:c<=c'):MV H A G c':=let ⟨kvs,a,b,d⟩:=h; ⟨kvs,a,Nat.le_trans b l,d⟩
def setV (G:Str->Str->Option V) (x y:Str) (v:V):Str->Str->Option V:=fun a b=>if a=x/\b=y then some v else G a b
theorem MV.get {H:Hp} {A t:Addr} {G:Str->Str->Option V} {c:Nat} (h:MV H A G c) {x y:Str} (ht:H t=some (.tup [.str x,.str y])):DGet H A (.ref t) (G x y):=by
 obtain ⟨kvs,a,_,d⟩:=h
 rw [<-d x y]
 exact DGet.t (k:=[Sum.inr x,Sum.inr y]) a ht
theorem MV.put {H:Hp} {A t:Addr} {G:Str->Str->Option V} {c:Nat} (h:MV H A G c) (hc:c < sizeLine) {x y:Str} {v:V} (ht:H t=some (.tup [.str x,.str y])):∃ H',DPut H A (.ref t) v H'/\MV H' A (setV G x y v) (c + 1)/\∃ kvs,H'=upd H A (.dT kvs):=by
 obtain ⟨kvs,a,b,d⟩:=h
 refine ⟨_,DPut.t (k:=[Sum.inr x,Sum.inr y]) a ht (by (first|lia|omega)),⟨_,upd_same,?_,fun p q=>?_⟩,_,rfl⟩
 ·have:=length_putK kvs [Sum.inr x,Sum.inr y] v
  (first|lia|omega)
 ·rw [valV_put]
  unfold setV
  by_cases e:p=x/\q=y
  ·obtain ⟨rfl,rfl⟩:=e
   simp
  ·have e':¬ ([Sum.inr p,Sum.inr q]:List Key)=[Sum.inr x,Sum.inr y]:=fun z=>by
    simp only [List.cons.injEq,Sum.inr.injEq,and_true] at z
    exact e z
   rw [if_neg e',if_neg e,d]
def MO (H:Hp) (A:Addr) (xs:List Str) (M:Str->Str->Option Int) (c:Nat):Prop:=∃ G,MV H A G c/\(∀ x ∈ xs,∀ y ∈ xs,G x y=some (oI (M x y)))/\∀ x y,¬ (x ∈ xs/\y ∈ xs)->G x y=none
theorem MO.same {H H':Hp} {A:Addr} {xs:List Str} {M:Str->Str->Option Int} {c:Nat} (h:MO H A xs M c) (s:Same H H'):MO H' A xs M c:=let ⟨G,a,b⟩:=h; ⟨G,a.same s,b⟩
theorem MO.up {H:Hp} {A:Addr} {xs:List Str} {M:Str->Str->Option Int} {c c':Nat} (h:MO H A xs M c) (l:c<=c'):MO H A xs M c':=let ⟨G,a,b⟩:=h; ⟨G,a.up l,b⟩
theorem MO.get {H:Hp} {A t:Addr} {xs:List Str} {M:Str->Str->Option Int} {c:Nat} (h:MO H A xs M c) {x y:Str} (hx:x ∈ xs) (hy:y ∈ xs) (ht:H t=some (.tup [.str x,.str y])):DGet H A (.ref t) (some (oI (M x y))):=by
 obtain ⟨G,a,b,_⟩:=h
 rw [<-b x hx y hy]
 exact a.get ht
theorem MO.put {H:Hp} {A t:Addr} {xs:List Str} {M:Str->Str->Option Int} {c:Nat} (h:MO H A xs M c) (hc:c < sizeLine) {x y:Str} (hx:x ∈ xs) (hy:y ∈ xs) {n:Int} (ht:H t=some (.tup [.str x,.str y])):∃ H',DPut H A (.ref t) (.int n) H'/\MO H' A xs (setM M x y n) (c + 1)/\∃ kvs,H'=upd H A (.dT kvs):=by
 obtain ⟨G,a,b,d⟩:=h
 obtain ⟨H',dp,mv,e⟩:=a.put hc (v:=.int n) ht
 refine ⟨H',dp,⟨_,mv,fun p hp q hq=>?_,fun p q hn=>?_⟩,e⟩
 ·unfold setV setM
  split
  ·rfl
  ·exact b p hp q hq
 ·unfold setV
  rw [if_neg (fun z=>hn ⟨by rw [z.1]; exact hx,by rw [z.2]; exact hy⟩)]
  exact d p q hn
theorem MO.md {H:Hp} {A:Addr} {xs:List Str} {M:Str->Str->Option Int} {c:Nat} (h:MO H A xs M c) (full:∀ x ∈ xs,∀ y ∈ xs,∃ n,M x y=some n):MD H A (fun x y=>if x ∈ xs/\y ∈ xs then M x y else none) c:=by
 obtain ⟨G,⟨kvs,a,b,d⟩,e,f⟩:=h
 refine ⟨kvs,a,b,fun x y=>?_⟩
 rw [d x y]
 dsimp only
 by_cases hxy:x ∈ xs/\y ∈ xs
 ·obtain ⟨n,hn⟩:=full x hxy.1 y hxy.2
  rw [e x hxy.1 y hxy.2,if_pos hxy,hn]
  rfl
 ·rw [f x y hxy,if_neg hxy]
  rfl
def spFarsL:Sp:=fun vs H Q _=>∃ (c m:Addr) (n:Nat) (xs:List Str) (ws:List Way) (rs1 rs2:List Row) (x:V) (d:PyData),vs=[.ref c]/\CaseW H c m n xs ws rs1 rs2 x d/\∀ (H':Hp) (A:Addr),Same H H'->H A=none->Known H' A xs ws->Q (.ref A) H'
theorem read_zip {K:PySem.W.Frag} {a b:Addr} {xs ys:List V} {g:TG} {te:TE} {H:Hp} {σ0:St} {R:Addr->Hp->Prop} (ll:xs.length=ys.length) (I:Addr->Nat->St->Hp->List V->Prop) (big:xs.length < sizeLine)
  (h0:∀ D,H D=none->I D 0 σ0 (upd H D (.lst [])) [])
  (hs:∀ D i σ H' acc,H D=none->I D i σ H' acc->SqT K H' a xs/\SqL K H' b ys/\H' D=some (.lst acc)/\acc.length=i)
  (turn:∀ D i σ H' acc x y T (B:St->V->Hp->Prop),H D=none->xs[i]? = some x->ys[i]? = some y->H' T=none->I D i σ H' acc->(∀ σ2 v H5,H5 D=some (.lst acc)->I D (i + 1) σ2 (upd H5 D (.lst (acc ++ [v]))) (acc ++ [v])->B σ2 v H5)->g (.ref T) σ (upd H' T (.tup [x,y])) fun σ2 H3=>te σ2 H3 (B σ2))
  (fin:∀ D σ H' acc,H D=none->I D xs.length σ H' acc->R D H') :
  ∀ D,H D=none->∃ W:Nat->Nat->St->Hp->Prop,(∃ m,W 0 m σ0 (upd H D (.lst []))) /\
   ∀ i m σ' H',W i m σ' H'->((Itz K a b).stop i H'/\R D H')\/((Itz K a b).go i H'/\∀ x H2,(Itz K a b).yld i H' x H2->g x σ' H2 fun σ2 H3=>tYes σ2 H3 fun b H4=>
    if b=true then te σ2 H4 (fun v H5=>∃ acc,H5 D=some (.lst acc)/\acc.length < sizeLine/\∃ m',m' < m/\W (i + 1) m' σ2 (upd H5 D (.lst (acc ++ [v])))) else ∃ m',m' < m/\W (i + 1) m' σ2 H4):=by
 intro D hD
 refine ⟨fun i m σ H'=>m=xs.length - i/\i<=xs.length/\∃ acc,I D i σ H' acc,⟨xs.length,rfl,Nat.zero_le _,[],h0 D hD⟩,?_⟩
 rintro i m σ H' ⟨rfl,hi,acc,p⟩
 obtain ⟨s1,s1b,s2,s3⟩:=hs D i σ H' acc hD p
 by_cases hlt:i < xs.length
 ·refine .inr ⟨⟨xs,ys,xs[i],ys[i]'(by (first|lia|omega)),s1,s1b,List.getElem?_eq_getElem hlt,List.getElem?_eq_getElem (by (first|lia|omega))⟩,fun x H2 y=>?_⟩
  obtain ⟨T,x',y',hT,rfl,rfl,ex,ey⟩:=y
  have e:∀ (F:St->V->Hp->Prop) (G:St->Hp->Prop),(fun (σ2:St) (H3:Hp)=>tYes σ2 H3 fun b H4=>if b=true then te σ2 H4 (F σ2) else G σ2 H4)=fun σ2 H3=>te σ2 H3 (F σ2):=by
   intro F G
   funext σ2 H3
   show (if true=true then te σ2 H3 (F σ2) else G σ2 H3)=_
   rw [if_pos rfl]
  rw [e (fun σ2 v H5=>∃ acc,H5 D=some (.lst acc)/\acc.length < sizeLine/\∃ m',m' < xs.length - i/\(m'=xs.length - (i + 1)/\i + 1<=xs.length/\∃ acc',I D (i + 1) σ2 (upd H5 D (.lst (acc ++ [v]))) acc')) (fun σ2 H4=>∃ m',m' < xs.length - i/\(m'=xs.length - (i + 1)/\i + 1<=xs.length/\∃ acc',I D (i + 1) σ2 H4 acc'))]
  refine turn D i σ H' acc x' y' T _ hD (ex xs s1) (ey ys s1b) hT p fun σ2 v H5 d5 p5=>?_
  exact ⟨acc,d5,by (first|lia|omega),xs.length - (i + 1),by (first|lia|omega),rfl,hlt,_,p5⟩
 ·have e:i=xs.length:=by (first|lia|omega)
  subst e
  exact .inl ⟨⟨xs,ys,s1,s1b,.inl (Nat.le_refl _)⟩,fin D σ H' acc hD p⟩
open Classical in
noncomputable def dst (ws:List Way) (x y:Str):Int:=if h:∃ n,Dst ws x y n then h.choose else 0
theorem Dst.dst {ws:List Way} {x y:Str} {n:Int} (h:Dst ws x y n):dst ws x y=n:=by
 unfold L2.dst
 rw [dif_pos ⟨n,h⟩]
 exact Dst.uniq (Exists.choose_spec (⟨n,h⟩:∃ n,Dst ws x y n)) h
noncomputable def getF (ws:List Way) (x:Str) (r:Row) (p:Int):Int:=max (p - r.2 * dst ws x r.1) 0
noncomputable def getsF (ws:List Way) (x:Str) (rs qs:List Row):Int:=((rs.zip qs).map fun z=>getF ws x z.1 z.2.2).sum
structure PrOk (rs qs:List Row):Prop where
 nm:qs.map (·.1)=rs.map (·.1)
 lo:∀ q ∈ qs,0<=q.2
theorem PrOk.len {rs qs:List Row} (h:PrOk rs qs):qs.length=rs.length:=by
 have:=congrArg List.length h.nm
 rwa [List.length_map,List.length_map] at this
theorem PrOk.at {rs qs:List Row} (h:PrOk rs qs) {i:Nat} {q:Row} (e:qs[i]? = some q):∃ r,rs[i]? = some r/\r.1=q.1:=by
 have:=congrArg (fun l=>l[i]?) h.nm
 rw [List.getElem?_map,List.getElem?_map,e] at this
 cases z:rs[i]? with
 | none=>rw [z] at this; cases this
 | some r=>rw [z] at this; exact ⟨r,rfl,(Option.some.inj this).symm⟩
structure CP (H:Hp) (c m t:Addr) (n:Nat) (xs:List Str) (ws:List Way) (rs1 rs2 qs:List Row) (x:V) (d:PyData):Prop where
 cw:CaseW H c m n xs ws rs1 rs2 x d
 few:∀ r ∈ rs2,r.2<=4
 ex:∃ us,H t=some (.tup us)/\Dats H us (qs.map rowD)
 ok:PrOk rs2 qs
theorem CP.same {H H':Hp} {c m t:Addr} {n:Nat} {xs:List Str} {ws:List Way} {rs1 rs2 qs:List Row} {x:V} {d:PyData} (h:CP H c m t n xs ws rs1 rs2 qs x d) (s:Same H H'):CP H' c m t n xs ws rs1 rs2 qs x d:=by
 obtain ⟨us,a,b⟩:=h.ex
 exact ⟨h.cw.same s,h.few,⟨us,s _ _ a,row_dats b fun b ys z=>s _ _ z⟩,h.ok⟩
theorem CP.names {H:Hp} {c m t:Addr} {n:Nat} {xs:List Str} {ws:List Way} {rs1 rs2 qs:List Row} {x:V} {d:PyData} (h:CP H c m t n xs ws rs1 rs2 qs x d):∀ q ∈ qs,q.1 ∈ xs/\nameB q.1=true:=fun q hq=>by
 have h1:q.1 ∈ rs2.map (·.1):=by rw [<-h.ok.nm]; exact List.mem_map.mpr ⟨q,hq,rfl⟩
 obtain ⟨r,hr,e⟩:=List.mem_map.mp h1
 have h2:=h.cw.ok2.sub r hr
 have e':r.1=q.1:=e
 rw [e'] at h2
 exact ⟨h2,h.cw.map.at'.nm _ h2⟩
def LevyOk (x:V) (lv:Int):Prop:=0<=lv/\lv<=1000/\(x=.non->lv=0)
def spGetsFrom:Sp:=fun vs H Q _=>∃ (c m t:Addr) (n:Nat) (xs:List Str) (ws:List Way) (rs1 rs2 qs:List Row) (x:V) (d:PyData) (v:V) (y:Str),vs=[.ref c,.ref t,v]/\CP H c m t n xs ws rs1 rs2 qs x d/\FarsAt H v xs ws y/\∀ H',Same H H'->Q (.int (getsF ws y rs2 qs)) H'
theorem FarsAt.get {H:Hp} {v:V} {xs:List Str} {ws:List Way} {s y:Str} (h:FarsAt H v xs ws s) (nd:xs.Nodup) (hy:y ∈ xs):∃ B,v=.ref B/\DGet H B (.str y) (some (.int (dst ws s y))):=by
 obtain ⟨B,nb,rfl,hB,ks,hd⟩:=h
 rw [<-ks] at hy
 obtain ⟨⟨z,u⟩,hm,e⟩:=List.mem_map.mp hy
 have e':z=y:=e
 subst e'
 obtain ⟨n,rfl,d⟩:=hd z u hm
 rw [d.dst]
 exact ⟨B,rfl,.inl ⟨_,Sum.inr z,.inl hB,rfl,(sK_some (nv:=nb) (by rw [ks]; exact nd) hm).symm⟩⟩
theorem max_if (i:Int):(if (0:Int) > i then 0 else i)=max i 0:=by
 rw [Int.max_def]
 split <;> split <;> (first|lia|omega)
theorem max_if' (i:Int):(if i > (0:Int) then i else 0)=max i 0:=by
 rw [Int.max_def]
 split <;> split <;> (first|lia|omega)
theorem gets_take {ws:List Way} {y:Str} {rs qs:List Row} {i:Nat} {r q:Row} (hr:rs[i]? = some r) (hq:qs[i]? = some q):((rs.zip qs).take (i + 1)).map (fun z=>getF ws y z.1 z.2.2)=((rs.zip qs).take i).map (fun z=>getF ws y z.1 z.2.2) ++ [getF ws y r q.2]:=by
 have e:(rs.zip qs)[i]? = some (r,q):=by
  rw [List.getElem?_zip_eq_some]
  exact ⟨hr,hq⟩
 rw [List.take_add_one,e,List.map_append]
 rfl
theorem zip_len {rs qs:List Row} (h:qs.length=rs.length):(rs.zip qs).length=rs.length:=by rw [List.length_zip]; (first|lia|omega)
noncomputable def standB (ws:List Way) (rs1 rs2 qs:List Row) (lv:Int):Bool:=rs1.all fun r=>decide (getsF ws r.1 rs2 qs<=r.2 + lv)
def nmQ (qs:List Row) (i:Nat):Row:=qs.getD i (Str.empty,0)
def putQ (qs:List Row) (i:Nat) (n:Int):List Row:=qs.take i ++ (((nmQ qs i).1,n) :: qs.drop (i + 1))
noncomputable def fullB (ws:List Way) (rs1 rs2 qs:List Row) (lv:Int):Bool:=!((List.range qs.length).any fun i=>standB ws rs1 rs2 (putQ qs i ((nmQ qs i).2 + 1)) lv)
theorem nmQ_at {qs:List Row} {i:Nat} {q:Row} (h:qs[i]? = some q):nmQ qs i=q:=by unfold nmQ; rw [List.getD_eq_getElem?_getD,h]; rfl
theorem putQ_map {qs:List Row} {i:Nat} {n:Int} (h:i < qs.length):(putQ qs i n).map (·.1)=qs.map (·.1):=by
 have e:qs[i]? = some qs[i]:=List.getElem?_eq_getElem h
 unfold putQ
 rw [nmQ_at e,List.map_append,List.map_cons]
 have:qs=qs.take i ++ (qs[i] :: qs.drop (i + 1)):=by rw [<-List.drop_eq_getElem_cons h,List.take_append_drop]
 conv=>rhs; rw [this,List.map_append,List.map_cons]
theorem putQ_ok {rs qs:List Row} {i:Nat} {n:Int} (h:PrOk rs qs) (hi:i < qs.length) (n0:0<=n):PrOk rs (putQ qs i n):=by
 refine ⟨by rw [putQ_map hi]; exact h.nm,fun q hq=>?_⟩
 unfold putQ at hq
 rcases List.mem_append.mp hq with z | z
 ·exact h.lo q (List.mem_of_mem_take z)
 ·rcases List.mem_cons.mp z with z | z
  ·rw [z]; exact n0
  ·exact h.lo q (List.mem_of_mem_drop z)
theorem cut_lo (us:List V) (i:Nat) (h:i < us.length):cutV us none (some (i:Int))=us.take i:=by
 unfold cutV
 have e1:HT.sIx us.length 0 none=0:=rfl
 have e2:HT.sIx us.length us.length (some (i:Int))=i:=by
  unfold HT.sIx
  simp only []
  split <;> (first|lia|omega)
 rw [e1,e2,List.drop_zero,Nat.sub_zero]
theorem cut_hi (us:List V) (i:Nat) (h:i < us.length):cutV us (some ((i:Int) + 1)) none=us.drop (i + 1):=by
 unfold cutV
 have e1:HT.sIx us.length us.length none=us.length:=rfl
 have e2:HT.sIx us.length 0 (some ((i:Int) + 1))=i + 1:=by
  unfold HT.sIx
  simp only []
  split <;> (first|lia|omega)
 rw [e1,e2]
 exact List.take_of_length_le (by rw [List.length_drop]; (first|lia|omega))
theorem catA {K:PySem.W.Frag} {H:Hp} {a b:Addr} {xs ys:List V} {Q:VK} (ha:H a=some (.tup xs)) (hb:H b=some (.tup ys)) (l:xs.length + ys.length<=sizeLine) (q:∀ T H',Same H H'->H' T=some (.tup (xs ++ ys))->Q (.ref T) H'):rCatTA K (.ref a) (.ref b) H Q:=by
 refine ⟨a,b,xs,ys,rfl,rfl,SqT.of ha,SqT.of hb,l,fun e=>?_,fun _ e=>?_,fun _ _ T hT=>?_⟩
 ·refine q b H (Same.refl _) ?_
  rw [hb,e]
  rfl
 ·refine q a H (Same.refl _) ?_
  rw [ha,e,List.append_nil]
 ·exact q T _ (same_upd hT) upd_same
theorem slLo {K:PySem.W.Frag} {H:Hp} {t:Addr} {us:List V} {i:Nat} {Q:VK} (ht:H t=some (.tup us)) (hi:i < us.length) (q:∀ Z H',Same H H'->H' Z=some (.tup (us.take i))->Q (.ref Z) H'):rSlT K (.ref t) none (some (i:Int)) H Q:=by
 refine ⟨t,us,rfl,SqT.of ht,fun z=>?_,fun p hp=>q p _ (same_upd hp) (by rw [upd_same,cut_lo us i hi])⟩
 have:=z.2
 rw [HT.sIx_nat] at this
 (first|lia|omega)
theorem slHi {K:PySem.W.Frag} {H:Hp} {t:Addr} {us:List V} {i:Nat} {Q:VK} (ht:H t=some (.tup us)) (hi:i < us.length) (q:∀ Z H',Same H H'->H' Z=some (.tup (us.drop (i + 1)))->Q (.ref Z) H'):rSlT K (.ref t) (some ((i:Int) + 1)) none H Q:=by
 refine ⟨t,us,rfl,SqT.of ht,fun z=>?_,fun p hp=>q p _ (same_upd hp) (by rw [upd_same,cut_hi us i hi])⟩
 have:=z.1
 rw [show ((i:Int) + 1)=((i + 1:Nat):Int) by (first|lia|omega),HT.sIx_nat] at this
 (first|lia|omega)
theorem dats_take' {H:Hp}:∀ {us:List V} {ds:List PyData} (i:Nat),Dats H us ds->Dats H (us.take i) (ds.take i)
 | _,_,0,_=>by rw [List.take_zero,List.take_zero]; exact .nil
 | _,_,i + 1,.nil=>by rw [List.take_nil,List.take_nil]; exact .nil
 | _,_,i + 1,.cons h r=>by rw [List.take_succ_cons,List.take_succ_cons]; exact .cons h (dats_take' i r)
theorem dats_drop' {H:Hp}:∀ {us:List V} {ds:List PyData} (i:Nat),Dats H us ds->Dats H (us.drop i) (ds.drop i)
 | _,_,0,h=>by rw [List.drop_zero,List.drop_zero]; exact h
 | _,_,i + 1,.nil=>by rw [List.drop_nil,List.drop_nil]; exact .nil
 | _,_,i + 1,.cons h r=>by rw [List.drop_succ_cons,List.drop_succ_cons]; exact dats_drop' i r
theorem putD {H:Hp} {us:List V} {qs:List Row} {i:Nat} {n:Int} {T:Addr} (h:Dats H us (qs.map rowD)) (hT:H T=some (.tup [.str (nmQ qs i).1,.int n])):Dats H ((us.take i ++ [.ref T]) ++ us.drop (i + 1)) ((putQ qs i n).map rowD):=by
 unfold putQ
 rw [List.map_append,List.map_cons,List.map_take,List.map_drop,List.append_assoc]
 exact dats_app (dats_take' i h) (.cons (rowD_of (u:=((nmQ qs i).1,n)) hT) (dats_drop' (i + 1) h))
theorem CP.put {H:Hp} {c m t T T2:Addr} {n:Nat} {xs:List Str} {ws:List Way} {rs1 rs2 qs:List Row} {x:V} {d:PyData} {us:List V} {i:Nat} {p:Int} (h:CP H c m t n xs ws rs1 rs2 qs x d) (du:Dats H us (qs.map rowD)) (hi:i < qs.length) (p0:0<=p)
  (hT:H T=some (.tup [.str (nmQ qs i).1,.int p])) (h2:H T2=some (.tup ((us.take i ++ [.ref T]) ++ us.drop (i + 1)))):CP H c m T2 n xs ws rs1 rs2 (putQ qs i p) x d:=
 ⟨h.cw,h.few,⟨_,h2,putD du hT⟩,putQ_ok h.ok hi p0⟩
theorem getF_pos (ws:List Way) (x:Str) (r:Row) (p:Int):0<=getF ws x r p:=by unfold getF; exact Int.le_max_right _ _
theorem sum_pos:∀ {l:List Int},(∀ x ∈ l,0<=x)->0<=l.sum
 | [],_=>by simp
 | a :: l,h=>by
  rw [List.sum_cons]
  have:=h a List.mem_cons_self
  have:=sum_pos (l:=l) fun x hx=>h x (List.mem_cons_of_mem _ hx)
  (first|lia|omega)
theorem getsF_pos (ws:List Way) (x:Str) (rs qs:List Row):0<=getsF ws x rs qs:=sum_pos fun y hy=>by
 obtain ⟨z,_,rfl⟩:=List.mem_map.mp hy
 exact getF_pos _ _ _ _
theorem Known.get {H:Hp} {A t:Addr} {xs:List Str} {ws:List Way} {y z:Str} (h:Known H A xs ws) (hy:y ∈ xs) (hz:z ∈ xs) (ht:H t=some (.tup [.str y,.str z])):DGet H A (.ref t) (some (.int (dst ws z y)))/\0<=dst ws z y/\dst ws z y < 2 ^ 300:=by
 obtain ⟨M,c,md,hm⟩:=h
 obtain ⟨n,e,d,n0,n1⟩:=hm y hy z hz
 have:=md.get ht
 rw [e] at this
 rw [d.symm.dst]
 exact ⟨this,n0,n1⟩
def AwaysAt (H:Hp) (D:Addr) (xs:List Str) (ws:List Way) (rs1:List Row):Prop:=∃ nv:List (Str × V),H D=some (.dK (sK nv))/\nv.map (·.1)=rs1.map (·.1)/\∀ s v,(s,v) ∈ nv->FarsAt H v xs ws s
theorem AwaysAt.same {H H':Hp} {D:Addr} {xs:List Str} {ws:List Way} {rs1:List Row} (h:AwaysAt H D xs ws rs1) (s:Same H H'):AwaysAt H' D xs ws rs1:=let ⟨nv,a,b,c⟩:=h; ⟨nv,s _ _ a,b,fun z v hz=>(c z v hz).same s⟩
theorem AwaysAt.get {H:Hp} {D:Addr} {xs:List Str} {ws:List Way} {rs1:List Row} (h:AwaysAt H D xs ws rs1) (nd:(rs1.map (·.1)).Nodup) {r:Row} (hr:r ∈ rs1):∃ v,DGet H D (.str r.1) (some v)/\FarsAt H v xs ws r.1:=by
 obtain ⟨nv,a,b,c⟩:=h
 have hy:r.1 ∈ nv.map (·.1):=by rw [b]; exact List.mem_map.mpr ⟨r,hr,rfl⟩
 obtain ⟨⟨z,v⟩,hm,e⟩:=List.mem_map.mp hy
 have e':z=r.1:=e
 subst e'
 exact ⟨v,.inl ⟨_,Sum.inr r.1,.inl a,rfl,(sK_some (nv:=nv) (by rw [b]; exact nd) hm).symm⟩,c _ _ hm⟩
def spStandBy:Sp:=fun vs H Q _=>∃ (c m t D:Addr) (n:Nat) (xs:List Str) (ws:List Way) (rs1 rs2 qs:List Row) (x:V) (d:PyData) (lv:Int),vs=[.ref c,.ref D,.ref t,.int lv]/\CP H c m t n xs ws rs1 rs2 qs x d/\AwaysAt H D xs ws rs1/\∀ H',Same H H'->Q (.bl (standB ws rs1 rs2 qs lv)) H'
def spGetsL:Sp:=fun vs H Q _=>∃ (c m t A:Addr) (n:Nat) (xs:List Str) (ws:List Way) (rs1 rs2 qs:List Row) (x:V) (d:PyData) (y:Str),vs=[.ref c,.ref A,.ref t,.str y]/\CP H c m t n xs ws rs1 rs2 qs x d/\Known H A xs ws/\y ∈ xs/\∀ H',Same H H'->Q (.int (getsF ws y rs2 qs)) H'
theorem raise_lt {du lv g r d:Int} (h1:du < 10 ^ 30) (h2:lv<=1000) (h3:0<=g) (h4:1<=r) (h5:r<=4) (h6:0<=d) (h7:d < 2 ^ 300):du + lv - g + r * d < 2 ^ 400:=by
 have a:r * d<=4 * d:=Int.mul_le_mul_of_nonneg_right h5 h6
 have b:(4:Int) * 2 ^ 300 + 10 ^ 30 + 2000<=2 ^ 400:=by decide +kernel
 have c:(10:Int) ^ 30=1000000000000000000000000000000:=by decide
 generalize (2:Int) ^ 300=X at *
 generalize (2:Int) ^ 400=Y at *
 generalize r * d=Z at *
 rw [c] at *
 (first|lia|omega)
theorem CP.keepT {H H':Hp} {c m t:Addr} {n:Nat} {xs:List Str} {ws:List Way} {rs1 rs2 qs:List Row} {x:V} {d:PyData} (h:CP H c m t n xs ws rs1 rs2 qs x d) (s:∀ b ys,H b=some (.tup ys)->H' b=some (.tup ys)):CP H' c m t n xs ws rs1 rs2 qs x d:=by
 obtain ⟨us,a,b⟩:=h.ex
 exact ⟨h.cw.keepT s,h.few,⟨us,s _ _ a,row_dats b s⟩,h.ok⟩
theorem Known.keep {H H':Hp} {A p:Addr} {xs:List Str} {ws:List Way} (h:Known H A xs ws) (hp:PnAt H p) (k:Keep p H H'):Known H' A xs ws:=by
 obtain ⟨M,c,⟨kvs,a,b,e⟩,r⟩:=h
 refine ⟨M,c,⟨kvs,k _ _ (fun z=>?_) a,b,e⟩,r⟩
 subst z
 obtain ⟨_,_,_,z⟩:=hp
 rw [z] at a
 cases a
theorem lt600' {m:Int} (h:m < 2 ^ 400):m + 1 < 2 ^ 600:=by
 have b:(2:Int) ^ 400 + 1 < 2 ^ 600:=by decide +kernel
 generalize (2:Int) ^ 400=X at *
 generalize (2:Int) ^ 600=Y at *
 (first|lia|omega)
def zeroQ (rs:List Row):List Row:=rs.map fun r=>(r.1,0)
theorem zeroQ_ok (rs:List Row):PrOk rs (zeroQ rs):=by
 refine ⟨by unfold zeroQ; rw [List.map_map]; rfl,fun q hq=>?_⟩
 obtain ⟨r,_,rfl⟩:=List.mem_map.mp hq
 exact Int.le_refl _
theorem nmQ_put {qs:List Row} {i:Nat} {p:Int} (h:i < qs.length):nmQ (putQ qs i p) i=((nmQ qs i).1,p):=by
 refine nmQ_at ?_
 unfold putQ
 rw [List.getElem?_append_right (by rw [List.length_take]; (first|lia|omega)),List.length_take,Nat.min_eq_left (by (first|lia|omega)),Nat.sub_self]
 rfl
theorem putQ_len {qs:List Row} {i:Nat} {p:Int} (h:i < qs.length):(putQ qs i p).length=qs.length:=by
 have:=congrArg List.length (putQ_map (n:=p) h)
 rwa [List.length_map,List.length_map] at this
theorem getsF_cons (ws:List Way) (x:Str) (r q:Row) (rs qs:List Row):getsF ws x (r :: rs) (q :: qs)=getF ws x r q.2 + getsF ws x rs qs:=by
 unfold getsF
 rw [List.zip_cons_cons,List.map_cons,List.sum_cons]
theorem gets_put {ws:List Way} {x:Str}:∀ {rs qs:List Row} {i:Nat} {r q:Row},rs[i]? = some r->qs[i]? = some q->∀ p:Int,getsF ws x rs (putQ qs i p) + getF ws x r q.2=getsF ws x rs qs + getF ws x r p
 | [],_,_,_,_,h,_,_=>by simp at h
 | _ :: _,[],_,_,_,_,h,_=>by simp at h
 | r0 :: rs,q0 :: qs,0,r,q,h1,h2,p=>by
  simp only [List.getElem?_cons_zero,Option.some.injEq] at h1 h2
  subst h1 h2
  show getsF ws x (r0 :: rs) ((q0.1,p) :: qs) + _=_
  rw [getsF_cons,getsF_cons]
  show getF ws x r0 p + _ + _=_
  (first|lia|omega)
 | r0 :: rs,q0 :: qs,i + 1,r,q,h1,h2,p=>by
  simp only [List.getElem?_cons_succ] at h1 h2
  have ih:=gets_put (ws:=ws) (x:=x) h1 h2 p
  show getsF ws x (r0 :: rs) (q0 :: putQ qs i p) + _=_
  rw [getsF_cons,getsF_cons]
  (first|lia|omega)
theorem putQ_put:∀ {qs:List Row} {i:Nat} {p p':Int},i < qs.length->putQ (putQ qs i p) i p'=putQ qs i p'
 | [],_,_,_,h=>by simp at h
 | q :: qs,0,p,p',_=>rfl
 | q :: qs,i + 1,p,p',h=>by
  show q :: putQ (putQ qs i p) i p'=q :: putQ qs i p'
  rw [putQ_put (by simpa using h)]
theorem stand_put {ws:List Way} {rs1 rs2 qs:List Row} {lv:Int} {i:Nat} {r q:Row} {mn p:Int} (h:standB ws rs1 rs2 qs lv=true) (hr:rs2[i]? = some r) (hq:qs[i]? = some q) (rq:r.1=q.1) (q0:0<=q.2) (hd:∀ s ∈ rs1,0<=r.2 * dst ws s.1 q.1)
  (hm:∀ s ∈ rs1,mn<=s.2 + lv - getsF ws s.1 rs2 (putQ qs i 0) + r.2 * dst ws s.1 q.1) (hp:p<=if mn > 0 then mn else 0):standB ws rs1 rs2 (putQ qs i p) lv=true:=by
 unfold standB at h ⊢
 rw [List.all_eq_true] at h ⊢
 intro s hs
 have g:=of_decide_eq_true (h s hs)
 refine decide_eq_true ?_
 have a:=gets_put (ws:=ws) (x:=s.1) hr hq p
 have b:=gets_put (ws:=ws) (x:=s.1) hr hq 0
 have d:=hd s hs
 have m:=hm s hs
 have e:∀ z,getF ws s.1 r z=max (z - r.2 * dst ws s.1 q.1) 0:=fun z=>by unfold getF; rw [rq]
 rw [e,e] at a b
 generalize r.2 * dst ws s.1 q.1=D at *
 generalize getsF ws s.1 rs2 (putQ qs i p)=X at *
 generalize getsF ws s.1 rs2 (putQ qs i 0)=Y at *
 generalize getsF ws s.1 rs2 qs=Z at *
 split at hp <;> (first|lia|omega)
theorem gets_zero {ws:List Way} {x:Str}:∀ {rs:List Row},(∀ r ∈ rs,0<=r.2 * dst ws x r.1)->getsF ws x rs (zeroQ rs)=0
 | [],_=>rfl
 | r :: rs,h=>by
  have ih:=gets_zero (ws:=ws) (x:=x) (rs:=rs) fun r' hr=>h r' (List.mem_cons_of_mem _ hr)
  have d:=h r List.mem_cons_self
  show getsF ws x (r :: rs) ((r.1,0) :: zeroQ rs)=0
  rw [getsF_cons,ih]
  unfold getF
  show max (0 - _) 0 + 0=(0:Int)
  (first|lia|omega)
theorem zero_stand {ws:List Way} {rs1 rs2:List Row} {lv:Int} (hd:∀ s ∈ rs1,∀ r ∈ rs2,0<=r.2 * dst ws s.1 r.1) (h0:∀ s ∈ rs1,0<=s.2) (l0:0<=lv):standB ws rs1 rs2 (zeroQ rs2) lv=true:=by
 unfold standB
 rw [List.all_eq_true]
 intro s hs
 rw [gets_zero (hd s hs)]
 exact decide_eq_true (by have:=h0 s hs; (first|lia|omega))
theorem Known.lo {H:Hp} {A:Addr} {xs:List Str} {ws:List Way} {y z:Str} (h:Known H A xs ws) (hy:y ∈ xs) (hz:z ∈ xs):0<=L2.dst ws z y:=by
 obtain ⟨M,c,md,hm⟩:=h
 obtain ⟨n,e,d,n0,n1⟩:=hm y hy z hz
 rw [d.symm.dst]
 exact n0
theorem putQ_lt {qs:List Row} {i:Nat} {p B:Int} (h:∀ q ∈ qs,q.2 < B) (hp:p < B):∀ q ∈ putQ qs i p,q.2 < B:=fun q hq=>by
 unfold putQ at hq
 rcases List.mem_append.mp hq with z | z
 ·exact h q (List.mem_of_mem_take z)
 ·rcases List.mem_cons.mp z with z | z
  ·rw [z]; exact hp
  ·exact h q (List.mem_of_mem_drop z)
theorem zeroQ_lt {rs:List Row}:∀ q ∈ zeroQ rs,q.2 < 2 ^ 400:=fun q hq=>by
 obtain ⟨r,_,rfl⟩:=List.mem_map.mp hq
 exact (by decide +kernel:(0:Int) < 2 ^ 400)
def spRaisedS:Sp:=fun vs H Q _=>∃ (c m t A:Addr) (n:Nat) (xs:List Str) (ws:List Way) (rs1 rs2 qs:List Row) (x:V) (d:PyData) (lv:Int) (i:Nat),vs=[.ref c,.ref A,.ref t,.int lv,.int i]/\CP H c m t n xs ws rs1 rs2 qs x d/\Known H A xs ws/\0<=lv/\lv<=1000/\i < qs.length /\
 ∀ (H':Hp) (T:Addr) (p:Int),Same H H'->0<=p->p < 2 ^ 400->(standB ws rs1 rs2 qs lv=true->∀ p':Int,p'<=p->standB ws rs1 rs2 (putQ qs i p') lv=true)->CP H' c m T n xs ws rs1 rs2 (putQ qs i p) x d->Q (.ref T) H'
def spPricesS:Sp:=fun vs H Q _=>∃ (p c m A:Addr) (n:Nat) (xs:List Str) (ws:List Way) (rs1 rs2:List Row) (x:V) (d:PyData) (lv:Int),vs=[.ref p,.ref c,.ref A,.int lv]/\PnAt H p/\CaseW H c m n xs ws rs1 rs2 x d/\(∀ r ∈ rs2,r.2<=4)/\Known H A xs ws/\0<=lv/\lv<=1000 /\
 ∀ (H':Hp) (T:Addr) (qs:List Row),PnAt H' p->Keep p H H'->CP H' c m T n xs ws rs1 rs2 qs x d->standB ws rs1 rs2 qs lv=true->(∀ q ∈ qs,q.2 < 2 ^ 400)->Q (.ref T) H'
end L2
namespace L2
open PySem PySem.Builtin.Str PySem.StrLaws
end L2
namespace L2
open PySem PySem.Spec PyProof.Rows PySem.NumText
end L2
namespace L2
open PySem PySem.Spec PyProof.Rows
theorem name_len {s:Str} (h:nameB s=true):s.length<=10:=by
 obtain ⟨_,l,_⟩:=low_of h
 (first|lia|omega)
theorem noFill_tuple_mul:fillsNumberSlot (.type "tuple") "mul"=pure false:=
 PySem.fillsNumberSlot_seq (id:="tuple.__mul__") (r:=some (.builtin "tuple.__rmul__")) PySem.F.slot_tuple_mul.lookup (by decide +kernel) PySem.F.slot_tuple_rmul.lookup (by decide +kernel)
theorem repeat_tuple:seqRepeat? (.type "tuple")=pure (some (.builtin "tuple.__mul__")):=by
 unfold seqRepeat?
 rw [PySem.seqSlot_of (T:="tuple") (name:="__mul__") (id:="tuple.__mul__") PySem.F.slot_tuple_mul.lookup (by decide +kernel),PySem.seqSlot_of (T:="tuple") (name:="__rmul__") (id:="tuple.__rmul__") PySem.F.slot_tuple_rmul.lookup (by decide +kernel)]
 rfl
theorem int_rmul_tuple (a:Int) (t:Tok) (l:Addr) (items:Array Value) (n:Nat) (dd:Option Addr) (sl:Array (Option Value)) :
  Meets (Builtin.«int.__rmul__» ⟨[.int a t,.ref l],[]⟩) (fun _ R s=>s.heap.get? l=some { cls:=.type "tuple",dict:=dd,data:=.seq items n,slots:=sl }/\R (.ok (.ret Value.notImplemented)) s):=
 .of_wp fun prog w A R s h=>by obtain ⟨hp,g,d,tk,os⟩:=s; obtain ⟨hl,h⟩:=h; wp_walk; exact ⟨_,rfl,h⟩
theorem tuple_mul2 (l:Addr) (items:Array Value) (n:Nat) (dd:Option Addr) (sl:Array (Option Value)) (u:Tok) (hne:items.isEmpty=false) (hs:items.size<=1000) :
  Meets (Builtin.«tuple.__mul__» ⟨[.ref l,.int 2 u],[]⟩) (fun _ R s=>s.heap.get? l=some { cls:=.type "tuple",dict:=dd,data:=.seq items n,slots:=sl }/\R (.ok (.ret (.ref s.heap.objs.size))) { s with heap:=s.heap.push { cls:=.type "tuple",data:=.seq (items ++ items) },toks:=s.toks }):=
 .of_wp fun prog w A R s h=>by
  obtain ⟨hp,g,d,tk,os⟩:=s; obtain ⟨hl,h⟩:=h
  wp_walk
  rw [if_neg (by (first|lia|omega))]
  dsimp only
  rw [if_neg (by simp [Builtin.Tuple.tupleTooMany,sizeLine]; (first|lia|omega))]
  have e:List.foldl (fun x1 x2=>x1 ++ x2) #[] (List.replicate (Int.toNat 2) items)=items ++ items:=by
   show (#[] ++ items) ++ items=_
   rw [Array.empty_append]
  rw [e]
  have big:2000 < sizeLine:=by decide
  wp_walk
  refine wpAny_ite_false (decide_eq_false (Nat.not_lt.mpr (by rw [Array.size_append]; (first|lia|omega)))) ?_
  wp_walk
  exact ⟨_,rfl,h⟩
theorem op_dblT {X:Cx}:OpR X (binaryOp .Mult) (fun x y H Q=>∃ (a:Addr) (us:List V),x=.ref a/\y=.int 2/\H a=some (.tup us)/\us ≠ []/\us.length<=1000/\∀ l,H l=none->Q (.ref l) (upd H l (.tup (us ++ us)))):=by
 intro pins s σ H x y v u Q I rx ry h
 obtain ⟨a,us,rfl,rfl,ha,hne,hz,q⟩:=h
 cases rx
 obtain ⟨t',rfl⟩:=ry
 obtain ⟨its,r1,p1,_⟩:=I.tuple (SqT.of ha)
 obtain ⟨⟨cls,dd,data,sl⟩,ho,hc,n,hd⟩:=id p1
 simp only at hc hd
 subst hc hd
 have il:us.length=its.length:=r1.length
 have un:0 < us.length:=List.length_pos_iff.mpr hne
 refine wpAny_binaryOp_repeat_ref (T:="tuple") (U:="int") (by decide) ⟨_,ho,rfl⟩ (fun s'=>typeIs_int s' 2 t') noFill_tuple_mul PySem.F.fills_int_mul PySem.F.slot_int_rmul repeat_tuple PySem.F.slot_int_index.lookup
  (call_meets PySem.F.slot_int_rmul (typeIs_int s 2 t') PySem.F.entry_int_rmul (PySem.F.args_int_rmul_2 _ _) (int_rmul_tuple 2 t' a its.toArray n dd sl)
   ⟨ho,rfl,⟨_,ho,rfl⟩,call_meets PySem.F.slot_tuple_mul ⟨_,ho,rfl⟩ PySem.F.entry_tuple_mul (PySem.F.args_tuple_mul_2 _ _) (tuple_mul2 a its.toArray n dd sl t' ?_ ?_) ⟨ho,?_⟩⟩)
 ·cases its with
  | nil=>rw [List.length_nil] at il; (first|lia|omega)
  | cons _ _=>rfl
 ·rw [List.size_toArray]; (first|lia|omega)
 ·rw [List.append_toArray]
  have big:2000 < sizeLine:=by decide
  refine ⟨.ref s.heap.objs.size,_,I.laid (t':=s.toks) (o:=.tup (us ++ us)) (fun b ob q=>Heap.get?_push_of_some _ q) (Nat.le_refl _) ?_,rfl,q _ (I.hok.fresh (Nat.le_refl _))⟩
  exact ⟨by rw [List.length_append]; (first|lia|omega),_,r1.append r1,IsTup.new _ _,TupD.new rfl rfl⟩
def NoInt (K:PySem.W.Frag) (H:Hp) (v:V):Prop:=∃ ty,TyOf K H v ty/\PySem.W.kitOne K ty (.type "int")=some false
def WholeIs (K:PySem.W.Frag) (H:Hp) (v:V) (b:Bool):Prop:=(∃ n:Int,v=.int n/\b=true)\/(b=false/\((∃ c,v=.bl c)\/NoInt K H v))
def NumIs (K:PySem.W.Frag) (H:Hp) (v:V) (l:Int) (b:Bool):Prop:=(∃ n:Int,v=.int n/\b=decide (l<=n))\/(b=false/\((∃ c,v=.bl c)\/NoInt K H v))
def RowIs (K:PySem.W.Frag) (H:Hp) (v:V) (y:Str) (b:Bool):Prop:=(b=false/\NoTup K H v)\/∃ (t:Addr) (us:List V),v=.ref t/\H t=some (.tup us)/\((us.length ≠ 2/\b=false)\/∃ a p,us=[a,p]/\((NotStr K H a/\b=false)\/∃ s:Str,a=.str s/\s.length<=1000/\b=(nameB s && decide (s=y))))
def RowsIs (K:PySem.W.Frag) (H:Hp) (v:V) (ys:List Str) (b:Bool):Prop:=(b=false/\NoTup K H v)\/∃ (t:Addr) (us:List V),v=.ref t/\H t=some (.tup us)/\((us.length ≠ ys.length/\b=false)\/(us.length=ys.length/\∃ bs:List Bool,bs.length=us.length/\b=bs.all id/\∀ (i:Nat) u y c,us[i]? = some u->ys[i]? = some y->bs[i]? = some c->RowIs K H u y c))
def PricesIs (K:PySem.W.Frag) (H:Hp) (v:V) (ys:List Str) (b:Bool):Prop:=(b=false/\RowsIs K H v ys false)\/∃ (t:Addr) (us:List V),v=.ref t/\H t=some (.tup us)/\us.length=ys.length/\∃ bs:List Bool,bs.length=us.length/\b=bs.all id /\
 ∀ (i:Nat) u y c,us[i]? = some u->ys[i]? = some y->bs[i]? = some c->∃ (tt:Addr) (p:V),u=.ref tt/\H tt=some (.tup [.str y,p])/\NumIs K H p 0 c
def LevyIs (K:PySem.W.Frag) (H:Hp) (x:V) (v:V) (b:Bool):Prop:=(b=false/\NumIs K H v 0 false)\/∃ lv:Int,v=.int lv/\0<=lv/\b=(!decide (x=.non) || decide (lv=0))
theorem NoInt.same {K:PySem.W.Frag} {H H':Hp} {v:V} (h:NoInt K H v) (s:Same H H'):NoInt K H' v:=let ⟨ty,a,b⟩:=h; ⟨ty,a.same s,b⟩
theorem NoTup.same {K:PySem.W.Frag} {H H':Hp} {v:V} (h:NoTup K H v) (s:Same H H'):NoTup K H' v:=let ⟨ty,a,b⟩:=h; ⟨ty,a.same s,b⟩
theorem NotStr.same {K:PySem.W.Frag} {H H':Hp} {v:V} (h:NotStr K H v) (s:Same H H'):NotStr K H' v:=let ⟨ty,a,b⟩:=h; ⟨ty,a.same s,b⟩
theorem NumIs.same {K:PySem.W.Frag} {H H':Hp} {v:V} {l:Int} {b:Bool} (h:NumIs K H v l b) (s:Same H H'):NumIs K H' v l b:=by
 rcases h with h | ⟨h,h2 | h2⟩
 ·exact .inl h
 ·exact .inr ⟨h,.inl h2⟩
 ·exact .inr ⟨h,.inr (h2.same s)⟩
theorem RowIs.same {K:PySem.W.Frag} {H H':Hp} {v:V} {y:Str} {b:Bool} (h:RowIs K H v y b) (s:Same H H'):RowIs K H' v y b:=by
 rcases h with ⟨h,h2⟩ | ⟨t,us,e,ht,h | ⟨a,p,e2,⟨h,h2⟩ | h⟩⟩
 ·exact .inl ⟨h,h2.same s⟩
 ·exact .inr ⟨t,us,e,s _ _ ht,.inl h⟩
 ·exact .inr ⟨t,us,e,s _ _ ht,.inr ⟨a,p,e2,.inl ⟨h.same s,h2⟩⟩⟩
 ·exact .inr ⟨t,us,e,s _ _ ht,.inr ⟨a,p,e2,.inr h⟩⟩
theorem RowsIs.same {K:PySem.W.Frag} {H H':Hp} {v:V} {ys:List Str} {b:Bool} (h:RowsIs K H v ys b) (s:Same H H'):RowsIs K H' v ys b:=by
 rcases h with ⟨h,h2⟩ | ⟨t,us,e,ht,h | ⟨h,bs,bl,e2,r⟩⟩
 ·exact .inl ⟨h,h2.same s⟩
 ·exact .inr ⟨t,us,e,s _ _ ht,.inl h⟩
 ·exact .inr ⟨t,us,e,s _ _ ht,.inr ⟨h,bs,bl,e2,fun i u y c a1 a2 a3=>(r i u y c a1 a2 a3).same s⟩⟩
theorem PricesIs.same {K:PySem.W.Frag} {H H':Hp} {v:V} {ys:List Str} {b:Bool} (h:PricesIs K H v ys b) (s:Same H H'):PricesIs K H' v ys b:=by
 rcases h with ⟨h,h2⟩ | ⟨t,us,e,ht,h,bs,bl,e2,r⟩
 ·exact .inl ⟨h,h2.same s⟩
 ·refine .inr ⟨t,us,e,s _ _ ht,h,bs,bl,e2,fun i u y c a1 a2 a3=>?_⟩
  obtain ⟨tt,p,e3,h3,n3⟩:=r i u y c a1 a2 a3
  exact ⟨tt,p,e3,s _ _ h3,n3.same s⟩
theorem LevyIs.same {K:PySem.W.Frag} {H H':Hp} {x v:V} {b:Bool} (h:LevyIs K H x v b) (s:Same H H'):LevyIs K H' x v b:=by
 rcases h with ⟨h,h2⟩ | h
 ·exact .inl ⟨h,h2.same s⟩
 ·exact .inr h
theorem PricesIs.stay {K:PySem.W.Frag} {ys:List Str} {b:Bool}:StayV fun H v=>PricesIs K H v ys b:=fun v H H' h s=>PricesIs.same h s
theorem RowIs.right {K:PySem.W.Frag} {H:Hp} {tt:Addr} {y:Str} {p:V} (n:nameB y=true) (h:H tt=some (.tup [.str y,p])):RowIs K H (.ref tt) y true:=
 .inr ⟨tt,_,rfl,h,.inr ⟨_,_,rfl,.inr ⟨y,rfl,Nat.le_trans (name_len n) (by decide),by rw [n,decide_eq_true rfl]; rfl⟩⟩⟩
def spNamesZ:Sp:=fun vs H Q _=>∃ (p:Addr) (n:Nat),vs=[.ref p,.int n]/\PnAt H p/\n<=26 /\
 ∀ (H':Hp) (D:Addr) (xs:List Str),PnAt H' p->Keep p H H'->H D=none->H' D=some (.lst (xs.map V.str))->xs.length=n->xs.Nodup->(∀ x ∈ xs,nameB x=true)->(∀ x ∈ xs,x ≠ Str.ofString "zzzzzz")->Q (.ref D) H'
def spCaseZ:Sp:=fun vs H Q _=>∃ (p:Addr) (kd:Int),vs=[.ref p,.int kd]/\PnAt H p /\
 ∀ (H':Hp) (c m:Addr) (n:Nat) (xs:List Str) (ws:List Way) (rs1 rs2:List Row) (x:V) (d:PyData),PnAt H' p->Keep p H H'->CaseW H' c m n xs ws rs1 rs2 x d->(∀ r ∈ rs2,r.2<=4)->(∀ y ∈ xs,y ≠ Str.ofString "zzzzzz")->Q (.ref c) H'
def spWholeX (K:PySem.W.Frag):Sp:=fun vs H Q _=>∃ (v:V) (b:Bool),vs=[v]/\WholeIs K H v b/\Q (.bl b) H
def spWholeFX (K:PySem.W.Frag):Sp:=fun vs H Q _=>∃ (v:V) (l:Int) (b:Bool),vs=[v,.int l]/\NumIs K H v l b/\Q (.bl b) H
def spRowX (K:PySem.W.Frag):Sp:=fun vs H Q _=>∃ (v:V) (y:Str) (b:Bool),vs=[v,.str y]/\RowIs K H v y b/\∀ H',Same H H'->Q (.bl b) H'
def spRowsX (K:PySem.W.Frag):Sp:=fun vs H Q _=>∃ (v:V) (L:Addr) (ys:List Str) (b:Bool),vs=[v,.ref L]/\H L=some (.lst (ys.map V.str))/\ys.length<=100/\RowsIs K H v ys b/\∀ H',Same H H'->Q (.bl b) H'
def spFolkX (K:PySem.W.Frag):Sp:=fun vs H Q _=>∃ (c m:Addr) (n:Nat) (xs:List Str) (ws:List Way) (rs1 rs2:List Row) (x:V) (d:PyData) (v:V) (b:Bool),vs=[.ref c,v]/\CaseW H c m n xs ws rs1 rs2 x d/\RowsIs K H v (rs2.map (·.1)) b/\∀ H',Same H H'->Q (.bl b) H'
def spPrX (K:PySem.W.Frag):Sp:=fun vs H Q _=>∃ (c m:Addr) (n:Nat) (xs:List Str) (ws:List Way) (rs1 rs2:List Row) (x:V) (d:PyData) (v:V) (b:Bool),vs=[.ref c,v]/\CaseW H c m n xs ws rs1 rs2 x d/\PricesIs K H v (rs2.map (·.1)) b/\∀ H',Same H H'->Q (.bl b) H'
def spLevyX (K:PySem.W.Frag):Sp:=fun vs H Q _=>∃ (c m:Addr) (n:Nat) (xs:List Str) (ws:List Way) (rs1 rs2:List Row) (x:V) (d:PyData) (v:V) (b:Bool),vs=[.ref c,v]/\CaseW H c m n xs ws rs1 rs2 x d/\LevyIs K H x v b/\Q (.bl b) H
def spStandX (K:PySem.W.Frag):Sp:=fun vs H Q _=>∃ (c m:Addr) (n:Nat) (xs:List Str) (ws:List Way) (rs1 rs2:List Row) (x:V) (d:PyData) (v l:V),vs=[.ref c,v,l]/\CaseW H c m n xs ws rs1 rs2 x d/\((PricesIs K H v (rs2.map (·.1)) false/\∀ H',Same H H'->Q (.bl false) H') \/
 ∃ (t:Addr) (qs:List Row),v=.ref t/\CP H c m t n xs ws rs1 rs2 qs x d/\((LevyIs K H x l false/\∀ H',Same H H'->Q (.bl false) H')\/∃ lv:Int,l=.int lv/\LevyIs K H x l true/\∀ H',Same H H'->Q (.bl (standB ws rs1 rs2 qs lv)) H'))
theorem CP.prices {K:PySem.W.Frag} {H:Hp} {c m t:Addr} {n:Nat} {xs:List Str} {ws:List Way} {rs1 rs2 qs:List Row} {x:V} {d:PyData} (h:CP H c m t n xs ws rs1 rs2 qs x d):PricesIs K H (.ref t) (rs2.map (·.1)) true:=by
 obtain ⟨us,ht,du⟩:=h.ex
 have ul:=rows_len du
 have ql:=h.ok.len
 refine .inr ⟨t,us,rfl,ht,by rw [List.length_map]; (first|lia|omega),us.map fun _=>true,by rw [List.length_map],by rw [List.all_map]; exact (List.all_eq_true.mpr fun _ _=>rfl).symm,fun i u y c a1 a2 a3=>?_⟩
 obtain ⟨q,tt,eq,rfl,htt⟩:=dats_row du a1
 rw [<-h.ok.nm,List.getElem?_map,eq] at a2
 cases a2
 rw [List.getElem?_map,a1] at a3
 cases a3
 exact ⟨tt,_,rfl,htt,.inl ⟨q.2,rfl,(decide_eq_true (h.ok.lo q (List.mem_of_getElem? eq))).symm⟩⟩
end L2
namespace HT
open PySem PySem.Spec PyProof.Rows
section
variable {prog:Program} {w:World} {A:Around} {E:Value->Shared->Prop} {s:Shared}
theorem getItem_tuple_whole {t sl:Addr} {items:Array Value} {vl vu:Value} {lo hi:Option Int} {Q:Value->Shared->Prop} (ht:IsTup s.heap t items) (hs:s.heap.IsSliceOf sl vl vu .none) (pl:IsPart vl lo) (pu:IsPart vu hi)
  (hw:sIx items.size 0 lo=0/\sIx items.size items.size hi=items.size)
  (h:Q (.ref t) s)
  (hsz:items.size<=sizeLine):wpAny (model prog w) A (getItem (.ref t) (.ref sl)) Q E s:=by
 have hj:sIx items.size items.size hi<=items.size:=sIx_le _ _ (Nat.le_refl _) hi
 obtain ⟨os,hos,hcs,hds⟩:=id hs
 have hTs:s.TypeIs (.ref sl) "slice":=⟨os,hos,hcs⟩
 unfold getItem
 try with_reducible refine wpAny_holding ?_
 first | refine wpAny_bind (wpAny_pure ?_) | skip
 refine wpAny_bind (wpAny_sequenceKey ht.typeIs (by decide) ?_)
 refine wpAny_bind (wpAny_callSpecial?_slot (name:=Str.ofString "__getitem__") ht.typeIs PyProof.Rows.slot_tuple_getitem
  (wpAny_call_entry PyProof.Rows.slot_tuple_getitem ht.typeIs entry_tuple_getitem ?_ (args_tuple_getitem _ _)))
 show wpAny _ _ (Builtin.Tuple.tupleItemsOf (.ref t) >>= _) _ _ s
 refine wpAny_bind (tupleItemsOf_ ht ?_)
 refine wpAny_bind (wpAny_typeOf hTs ?_)
 rw [if_pos (by decide)]
 refine wpAny_bind (sliceApplied_gen hs pl pu ?_)
 have hyes:((((sIx items.size 0 lo:Nat):Int) == 0 && (1:Int) == 1 && (sIx items.size items.size hi - sIx items.size 0 lo) == items.size)=true):=by
  rw [hw.1,hw.2]
  simp
 show wpAny _ _ (if (((sIx items.size 0 lo:Nat):Int) == 0 && (1:Int) == 1 && (sIx items.size items.size hi - sIx items.size 0 lo) == items.size)=true then _ else _) _ _ s
 rw [if_pos hyes]
 obtain ⟨o,ho,hc,n,hd⟩:=id ht
 refine wpAny_bind ?_
 unfold Builtin.Tuple.tupleIsExact
 refine wpAny_bind (wpAny_typeOf ht.typeIs ?_)
 refine wpAny_pure ?_
 rw [if_pos (by decide)]
 refine wpAny_bind (wpAny_rule ?_)
 exact wpAny_pure ⟨_,rfl,wpAny_pure h⟩
theorem back_placesX (n:Nat):Builtin.Slice.slicePlaces ((n:Int) - 1) (-1) (-1)=n:=by
 unfold Builtin.Slice.slicePlaces
 have h0:¬ ((-1:Int) > 0):=by decide
 rw [if_neg h0,show (- (-1:Int))=1 by decide,Int.ediv_one]
 split <;> (first|lia|omega)
theorem fm_some {α β:Type} {f:α->Option β} {g:α->β}:∀ {l:List α},(∀ a ∈ l,f a=some (g a))->l.filterMap f=l.map g
 | [],_=>rfl
 | a :: l,h=>by
  rw [List.filterMap_cons,h a (by simp)]
  show g a :: _=_
  rw [fm_some fun b hb=>h b (List.mem_cons_of_mem _ hb)]
  rfl
theorem back_list (items:Array Value):((List.range items.size).filterMap fun (m:Nat)=>items[(((items.size:Int) - 1) + (m:Int) * -1).toNat]?)=items.toList.reverse:=by
 rw [fm_some (g:=fun m=>items.toList.reverse.getD m .none) fun m hm=>?_]
 ·refine List.ext_getElem? fun i=>?_
  rw [List.getElem?_map]
  by_cases hi:i < items.size
  ·rw [List.getElem?_range hi]
   show some (items.toList.reverse.getD i .none)=_
   rw [List.getD_eq_getElem?_getD,List.getElem?_eq_getElem (l:=items.toList.reverse) (by rw [List.length_reverse,Array.length_toList]; exact hi)]
   rfl
  ·rw [List.getElem?_eq_none (by rw [List.length_range]; (first|lia|omega)),List.getElem?_eq_none (by rw [List.length_reverse,Array.length_toList]; (first|lia|omega))]
   rfl
 ·have hm':=List.mem_range.mp hm
  have e1:(((items.size:Int) - 1) + (m:Int) * -1).toNat=items.size - 1 - m:=by (first|lia|omega)
  rw [e1,List.getD_eq_getElem?_getD,List.getElem?_reverse (by rw [Array.length_toList]; exact hm'),Array.length_toList,Array.getElem?_toList,Array.getElem?_eq_getElem (by (first|lia|omega))]
  rfl
theorem getItem_tuple_backX {t sl:Addr} {items:Array Value} {tk:Tok} {Q:Value->Shared->Prop} (ht:IsTup s.heap t items) (hs:s.heap.IsSliceOf sl .none .none (.int (-1) tk)) (hsz:items.size<=sizeLine)
  (h:Q (.ref s.heap.objs.size) { s with heap:=s.heap.push { cls:=.type "tuple",data:=.seq items.toList.reverse.toArray } }) :
  wpAny (model prog w) A (getItem (.ref t) (.ref sl)) Q E s:=by
 obtain ⟨os,hos,hcs,hds⟩:=id hs
 have hTs:s.TypeIs (.ref sl) "slice":=⟨os,hos,hcs⟩
 have app:∀ {R:Int × Int × Nat->Shared->Prop},R ((items.size:Int) - 1,-1,items.size) s->wpAny (model prog w) A.in1 (Builtin.Slice.sliceApplied (.ref sl) (pure (items.size:Int))) R E s:=by
  intro R q
  unfold Builtin.Slice.sliceApplied Builtin.Slice.sliceFields
  refine wpAny_bind (wpAny_bind (wpAny_field hos hds (x:=.none) rfl (wpAny_bind (wpAny_field hos hds (x:=.none) rfl (wpAny_bind (wpAny_field hos hds (x:=.int (-1) tk) rfl (wpAny_pure ?_)))))))
  refine wpAny_bind (slicePart_int ?_)
  show wpAny _ _ (if ((-1:Int) == 0)=true then _ else _) _ _ s
  rw [if_neg (by decide)]
  refine wpAny_bind (slicePart_none (wpAny_bind (slicePart_none (wpAny_bind (wpAny_pure ?_)))))
  have q':R ((items.size:Int) - 1,-1,Builtin.Slice.slicePlaces ((items.size:Int) - 1) (-1) (-1)) s:=by rw [back_placesX]; exact q
  exact wpAny_pure q'
 unfold getItem
 try with_reducible refine wpAny_holding ?_
 first | refine wpAny_bind (wpAny_pure ?_) | skip
 refine wpAny_bind (wpAny_sequenceKey ht.typeIs (by decide) ?_)
 refine wpAny_bind (wpAny_callSpecial?_slot (name:=Str.ofString "__getitem__") ht.typeIs PyProof.Rows.slot_tuple_getitem
  (wpAny_call_entry PyProof.Rows.slot_tuple_getitem ht.typeIs entry_tuple_getitem ?_ (args_tuple_getitem _ _)))
 show wpAny _ _ (Builtin.Tuple.tupleItemsOf (.ref t) >>= _) _ _ s
 refine wpAny_bind (tupleItemsOf_ ht ?_)
 refine wpAny_bind (wpAny_typeOf hTs ?_)
 rw [if_pos (by decide)]
 refine wpAny_bind (app ?_)
 show wpAny _ _ (if (((items.size:Int) - 1) == 0 && (-1:Int) == 1 && items.size == items.size)=true then _ else _) _ _ s
 rw [if_neg (by simp)]
 have er:((List.range items.size).filterMap fun (m:Nat)=>items[(((items.size:Int) - 1) + (m:Int) * -1).toNat]?)=items.toList.reverse:=back_list items
 have q:=h
 rw [<-er] at q
 have sz:sizeOk (.seq ((List.range items.size).filterMap fun (m:Nat)=>items[(((items.size:Int) - 1) + (m:Int) * -1).toNat]?).toArray):=by
  show ((List.range items.size).filterMap fun (m:Nat)=>items[(((items.size:Int) - 1) + (m:Int) * -1).toNat]?).toArray.size<=sizeLine
  rw [List.size_toArray,er,List.length_reverse,Array.length_toList]
  exact hsz
 first
  | exact wpAny_bind (m:=Builtin.Tuple.tupleExact _) (wpAny_newObj_type (wpAny_pure ⟨_,rfl,wpAny_pure q⟩) sz)
  | exact wpAny_bind (m:=Builtin.Tuple.tupleExact _) (wpAny_newObj_type (wpAny_bind (wpAny_pure (wpAny_pure ⟨_,rfl,wpAny_pure q⟩))) sz)
  | exact wpAny_bind (wpAny_bind (m:=Builtin.Tuple.tupleExact _) (wpAny_newObj_type (wpAny_pure (wpAny_pure ⟨_,rfl,wpAny_pure q⟩)) sz))
  | exact wpAny_bind (wpAny_bind (m:=Builtin.Tuple.tupleExact _) (wpAny_newObj_type (wpAny_pure ⟨_,rfl,wpAny_pure q⟩) sz))
end
end HT
namespace L2
open PySem PySem.Spec PyProof.Rows
theorem vals_rev:∀ {xs:List V} {its:List Value},Vals xs its->Vals xs.reverse its.reverse
 | _,_,.nil=>.nil
 | _,_,.cons a b=>by
  rw [List.reverse_cons,List.reverse_cons]
  exact (vals_rev b).append (.cons a .nil)
def tBackX (K:PySem.W.Frag) (te:TE):TE:=fun σ H Q=>te σ H fun x H1=>∃ (a:Addr) (xs:List V),x=.ref a/\SqT K H1 a xs/\∀ p:Addr,H1 p=none->Q (.ref p) (upd H1 p (.tup xs.reverse))
theorem pe_backX {X:Cx} {e st:Expr} {te:TE} {pos p2:Pos} (he:PE X e te) (hst:PE X st (tUn (rU fun i=>.int (-i)) (tC (.int 1)))):PE X (.Subscript e (.Slice none none (some st) p2) pos) (tBackX X.K te):=by
 intro pins s σ H Q I h
 refine Subscript_ (thn (he pins s σ H _ I h) fun v s1 ⟨x,H1,I1,r1,q1⟩=>?_)
 obtain ⟨a,xs,rfl,ht,q⟩:=q1
 cases r1
 refine wpAny_Slice ?_
 rw [evalPart_none]
 refine wpAny_pure ?_
 refine wpAny_pure ?_
 rw [evalPart_some]
 refine thn (hst pins s1 σ H1 (fun y H2=>y=.int (-1)/\H2=H1) I1 ⟨_,rfl,rfl,rfl⟩) fun u s2 ⟨y,H2,I2,r2,e2,e3⟩=>?_
 subst e2 e3
 obtain ⟨tk,rfl⟩:=r2
 have I3:Inv X pins σ H2 { s2 with heap:=s2.heap.push { cls:=.type "slice",data:=.fields #[.none,.none,.int (-1) tk] } }:=I2.kept (t':=s2.toks) fun b ob q=>Heap.get?_push_of_some _ q
 obtain ⟨its,r,p,hz⟩:=I3.tuple ht
 have hl:its.toArray.size=xs.length:=by rw [List.size_toArray]; exact r.length.symm
 refine tail_any (ops:=[.ref a,.ref s2.heap.objs.size]) p.typeIs PyProof.Rows.slot_tuple_getitem.lookup ?_ (by with_unfolding_all rfl)
 refine HT.getItem_tuple_backX (tk:=tk) p (Heap.IsSliceOf.new ..) (by rw [hl]; exact hz) ?_
 refine ⟨.ref _,_,I3.laid (t':=s2.toks) (o:=.tup xs.reverse) (fun b ob q=>Heap.get?_push_of_some _ q) (Nat.le_refl _) ?_,rfl,q _ (I3.hok.fresh (Nat.le_refl _))⟩
 exact ⟨by rw [List.length_reverse]; (first|lia|omega),its.reverse,vals_rev r,IsTup.new _ _,TupD.new rfl rfl⟩
def rSlTA (K:PySem.W.Frag):V->Option Int->Option Int->Hp->VK->Prop:=fun x lo hi H Q=>∃ a xs,x=.ref a/\SqT K H a xs /\
 ((HT.sIx xs.length 0 lo=0/\HT.sIx xs.length xs.length hi=xs.length)->Q (.ref a) H)/\(¬ (HT.sIx xs.length 0 lo=0/\HT.sIx xs.length xs.length hi=xs.length)->∀ p,H p=none->Q (.ref p) (upd H p (.tup (cutV xs lo hi))))
theorem sl_tupA (K:PySem.W.Frag) {X:Cx} (h:X.K=K):SlR X (rSlTA K):=by
 subst h
 intro pins s σ H x v vl vu lo hi sl Q I rx hs pl pu h
 obtain ⟨a,xs,e0,hx,q1,q2⟩:=h
 subst e0
 by_cases hw:HT.sIx xs.length 0 lo=0/\HT.sIx xs.length xs.length hi=xs.length
 ·cases rx
  obtain ⟨its,r,ht,hz⟩:=I.tuple hx
  have hlen:its.toArray.size=xs.length:=by rw [List.size_toArray]; exact r.length.symm
  refine ⟨"tuple",_,PyProof.Rows.slot_tuple_getitem.lookup,ht.typeIs,?_⟩
  exact HT.getItem_tuple_whole ht hs pl pu (by rw [hlen]; exact hw) ⟨.ref a,H,I,rfl,q1 hw⟩ (by rw [hlen]; exact hz)
 ·exact sl_tup pins s σ H (.ref a) v vl vu lo hi sl Q I rx hs pl pu ⟨a,xs,rfl,hx,hw,q2 hw⟩
def tListF (Φ:St->Hp->Prop) (Ψ:Hp->V->Prop) (n:Nat):TE:=fun σ H Q=>Φ σ H/\∀ (l:Addr) (us:List V) (H1:Hp),Same H H1->H1 l=none->(∀ u ∈ us,Ψ H1 u)->us.length=n->Q (.ref l) (upd H1 l (.lst us))
theorem g_listF {X:Cx} {Φ:St->Hp->Prop} {Ψ:Hp->V->Prop} {es:List Expr} {pos:Pos} {n:Nat} (hn:n<=1000) (h:PA X es (tGoods Φ Ψ n)):PE X (.List es pos) (tListF Φ Ψ n):=
 (pe_lst h).weak fun σ H Q ⟨f,k⟩=>⟨f,fun vs H1 s1 p1 l1=>⟨Nat.le_trans (by (first|lia|omega)) (show 1000<=sizeLine by decide),fun p hp=>k p vs H1 s1 hp p1 l1⟩⟩
theorem TyOf.updL {K:PySem.W.Frag} {H:Hp} {x:V} {t:Value} {R:Addr} {xs ys:List V} (h:TyOf K H x t) (hR:H R=some (.lst xs)):TyOf K (upd H R (.lst ys)) x t:=by
 have ne:∀ {a:Addr} {o},H a=some o->(∀ zs,o ≠ .lst zs)->(upd H R (.lst ys)) a=some o:=fun {a o} e n=>by
  rw [upd_ne (by intro z; subst z; rw [hR] at e; exact n _ (Option.some.inj e).symm)]
  exact e
 cases h with
 | non=>exact .non
 | bl x=>exact .bl x
 | int i=>exact .int i
 | str x=>exact .str x
 | flt x=>exact .flt x
 | @lst a zs e=>
  by_cases z:a=R
  ·subst z; exact .lst upd_same
  ·exact .lst (by rw [upd_ne z]; exact e)
 | frz e=>exact .frz (ne e fun zs q=>by cases q)
 | tup e=>exact .tup (ne e fun zs q=>by cases q)
 | dK e=>exact .dK (ne e fun zs q=>by cases q)
 | dT e=>exact .dT (ne e fun zs q=>by cases q)
 | ins e c h1 h2 h3 h4=>exact .ins (ne e fun zs q=>by cases q) c h1 h2 h3 h4
theorem NumIs.updL {K:PySem.W.Frag} {H:Hp} {x:V} {l:Int} {b:Bool} {R:Addr} {xs ys:List V} (h:NumIs K H x l b) (hR:H R=some (.lst xs)):NumIs K (upd H R (.lst ys)) x l b:=by
 rcases h with h | ⟨h,h2 | ⟨ty,h2,h3⟩⟩
 ·exact .inl h
 ·exact .inr ⟨h,.inl h2⟩
 ·exact .inr ⟨h,.inr ⟨ty,h2.updL hR,h3⟩⟩
def BadRow (K:PySem.W.Frag) (y:Str) (H:Hp) (v:V):Prop:=RowIs K H v y false\/∃ (t:Addr) (p:V),v=.ref t/\H t=some (.tup [.str y,p])/\NumIs K H p 0 false
theorem BadRow.stay {K:PySem.W.Frag} {y:Str}:StayV (BadRow K y):=fun v H H' h s=>by
 rcases h with h | ⟨t,p,e,ht,n⟩
 ·exact .inl (h.same s)
 ·exact .inr ⟨t,p,e,s _ _ ht,n.same s⟩
theorem NumIs.stay {K:PySem.W.Frag} {b:Bool}:StayV fun H v=>NumIs K H v 0 b:=fun v H H' h s=>NumIs.same h s
theorem odd_no {K:PySem.W.Frag} {H:Hp} {v:V} {ys:List Str} (h:NoTup K H v):PricesIs K H v ys false:=.inl ⟨rfl,.inl ⟨rfl,h⟩⟩
theorem noTup_list {K:PySem.W.Frag} {H:Hp} {a:Addr} {xs:List V} (h:H a=some (.lst xs)):NoTup K H (.ref a):=⟨_,.lst h,rfl⟩
theorem rows_wrong {K:PySem.W.Frag} {H:Hp} {t:Addr} {us:List V} {qs:List Row} {ys:List Str} (ht:H t=some (.tup us)) (du:Dats H us (qs.map rowD)) (nm:∀ q ∈ qs,nameB q.1=true) (ne:qs.map (·.1) ≠ ys):PricesIs K H (.ref t) ys false:=by
 have ul:=rows_len du
 refine .inl ⟨rfl,.inr ⟨t,us,rfl,ht,?_⟩⟩
 by_cases hl:us.length=ys.length
 ·refine .inr ⟨hl,(qs.zip ys).map (fun z=>nameB z.1.1 && decide (z.1.1=z.2)),by rw [List.length_map,List.length_zip]; (first|lia|omega),?_,fun i u y c a1 a2 a3=>?_⟩
  ·cases hb:((qs.zip ys).map (fun z=>nameB z.1.1 && decide (z.1.1=z.2))).all id with
   | false=>rfl
   | true=>
    refine absurd (List.ext_getElem? fun i=>?_) ne
    rw [List.all_map,List.all_eq_true] at hb
    rw [List.getElem?_map]
    by_cases hi:i < qs.length
    ·rw [List.getElem?_eq_getElem hi,List.getElem?_eq_getElem (show i < ys.length by (first|lia|omega))]
     have:=hb (qs[i],ys[i]'(by (first|lia|omega))) (List.mem_of_getElem? (i:=i) (by rw [List.getElem?_zip_eq_some]; exact ⟨List.getElem?_eq_getElem hi,List.getElem?_eq_getElem (by (first|lia|omega))⟩))
     have e2:decide ((qs[i]).1=ys[i]'(by (first|lia|omega)))=true:=(Bool.and_eq_true_iff.mp this).2
     show some (qs[i]).1=_
     rw [of_decide_eq_true e2]
    ·rw [List.getElem?_eq_none (by (first|lia|omega)),List.getElem?_eq_none (show ys.length<=i by (first|lia|omega))]
     rfl
  ·obtain ⟨q,tt,eq,rfl,htt⟩:=dats_row du a1
   have ez:(qs.zip ys)[i]? = some (q,y):=by rw [List.getElem?_zip_eq_some]; exact ⟨eq,a2⟩
   rw [List.getElem?_map,ez] at a3
   cases a3
   exact .inr ⟨tt,_,rfl,htt,.inr ⟨_,_,rfl,.inr ⟨q.1,rfl,Nat.le_trans (name_len (nm q (List.mem_of_getElem? eq))) (by decide),rfl⟩⟩⟩
 ·exact .inl ⟨hl,rfl⟩
theorem putV_at {α:Type} {us:List α} {v:α} {i:Nat} (hi:i < us.length) (j:Nat):((us.take i ++ [v]) ++ us.drop (i + 1))[j]? = if j=i then some v else us[j]?:=by
 have lt:(us.take i).length=i:=by rw [List.length_take]; (first|lia|omega)
 by_cases h:j=i
 ·subst h
  rw [if_pos rfl,List.getElem?_append_left (by rw [List.length_append,lt]; simp),List.getElem?_append_right (by (first|lia|omega)),lt,Nat.sub_self]
  rfl
 ·rw [if_neg h]
  by_cases hj:j < i
  ·rw [List.getElem?_append_left (by rw [List.length_append,lt]; (first|lia|omega)),List.getElem?_append_left (by (first|lia|omega)),List.getElem?_take_of_lt hj]
  ·rw [List.getElem?_append_right (by rw [List.length_append,lt]; simp; (first|lia|omega)),List.length_append,lt,List.getElem?_drop]
   congr 1
   simp
   (first|lia|omega)
theorem putV_len {α:Type} {us:List α} {v:α} {i:Nat} (hi:i < us.length):((us.take i ++ [v]) ++ us.drop (i + 1)).length=us.length:=by
 rw [List.length_append,List.length_append,List.length_take,List.length_drop]
 simp
 (first|lia|omega)
theorem put_wrong {K:PySem.W.Frag} {H:Hp} {T:Addr} {us:List V} {qs:List Row} {i:Nat} {q:Row} {v:V} (hT:H T=some (.tup ((us.take i ++ [v]) ++ us.drop (i + 1)))) (du:Dats H us (qs.map rowD)) (nm:∀ q ∈ qs,nameB q.1=true) (lo:∀ q ∈ qs,0<=q.2) (hq:qs[i]? = some q) (bad:BadRow K q.1 H v):PricesIs K H (.ref T) (qs.map (·.1)) false:=by
 have ul:=rows_len du
 have hi:i < qs.length:=(List.getElem?_eq_some_iff.mp hq).1
 have hi':i < us.length:=by (first|lia|omega)
 have bl:((List.range us.length).map fun j=>!decide (j=i)).length=us.length:=by rw [List.length_map,List.length_range]
 have ba:false=((List.range us.length).map fun j=>!decide (j=i)).all id:=by
  cases hb:((List.range us.length).map fun j=>!decide (j=i)).all id with
  | false=>rfl
  | true=>
   rw [List.all_map,List.all_eq_true] at hb
   have:=hb i (List.mem_range.mpr hi')
   simp at this
 have bj:∀ (j:Nat) c,((List.range us.length).map fun j=>!decide (j=i))[j]? = some c->c = !decide (j=i):=fun j c e=>by
  rw [List.getElem?_map] at e
  by_cases hj:j < us.length
  ·rw [List.getElem?_range hj] at e
   exact (Option.some.inj e).symm
  ·rw [List.getElem?_eq_none (by rw [List.length_range]; (first|lia|omega))] at e
   cases e
 rcases bad with bad | ⟨t,p,rfl,ht,np⟩
 ·refine .inl ⟨rfl,.inr ⟨T,_,rfl,hT,.inr ⟨by rw [putV_len hi',List.length_map]; exact ul,_,by rw [putV_len hi']; exact bl,ba,fun j u y c a1 a2 a3=>?_⟩⟩⟩
  rw [putV_at hi'] at a1
  rw [bj j c a3]
  by_cases h:j=i
  ·subst h
   rw [if_pos rfl] at a1
   rw [List.getElem?_map,hq] at a2
   cases a1
   cases a2
   rw [decide_eq_true rfl]
   exact bad
  ·rw [if_neg h] at a1
   obtain ⟨r,tt,er,rfl,htt⟩:=dats_row du a1
   rw [List.getElem?_map,er] at a2
   cases a2
   rw [decide_eq_false h]
   exact RowIs.right (nm r (List.mem_of_getElem? er)) htt
 ·refine .inr ⟨T,_,rfl,hT,by rw [putV_len hi',List.length_map]; exact ul,_,by rw [putV_len hi']; exact bl,ba,fun j u y c a1 a2 a3=>?_⟩
  rw [putV_at hi'] at a1
  rw [bj j c a3]
  by_cases h:j=i
  ·subst h
   rw [if_pos rfl] at a1
   rw [List.getElem?_map,hq] at a2
   cases a1
   cases a2
   rw [decide_eq_true rfl]
   exact ⟨t,p,rfl,ht,np⟩
  ·rw [if_neg h] at a1
   obtain ⟨r,tt,er,rfl,htt⟩:=dats_row du a1
   rw [List.getElem?_map,er] at a2
   cases a2
   rw [decide_eq_false h]
   exact ⟨tt,_,rfl,htt,.inl ⟨r.2,rfl,(decide_eq_true (lo r (List.mem_of_getElem? er))).symm⟩⟩
theorem cut_last (us:List V) (h:1<=us.length):cutV us none (some (-1))=us.take (us.length - 1):=by
 unfold cutV
 have e1:HT.sIx us.length 0 none=0:=rfl
 have e2:HT.sIx us.length us.length (some (-1))=us.length - 1:=by
  unfold HT.sIx
  simp only []
  split <;> (first|lia|omega)
 rw [e1,e2,List.drop_zero,Nat.sub_zero]
theorem cut_one (us:List V) (h:1<=us.length):cutV us (some 1) none=us.drop 1:=by
 have:=cut_hi us 0 (by (first|lia|omega))
 simpa using this
theorem cut_first (us:List V) (h:1 < us.length):cutV us none (some 1)=us.take 1:=cut_lo us 1 h
theorem cut_end (us:List V) (h:1<=us.length):cutV us (some (-1)) none=us.drop (us.length - 1):=by
 unfold cutV
 have e1:HT.sIx us.length us.length none=us.length:=rfl
 have e2:HT.sIx us.length 0 (some (-1))=us.length - 1:=by
  unfold HT.sIx
  simp only []
  split <;> (first|lia|omega)
 rw [e1,e2]
 exact List.take_of_length_le (by rw [List.length_drop]; (first|lia|omega))
theorem rev_ne {α:Type} {l:List α} (nd:l.Nodup) (h:1 < l.length):l.reverse ≠ l:=fun e=>by
 have h0:l.reverse[0]? = l[l.length - 1 - 0]?:=List.getElem?_reverse (by (first|lia|omega))
 rw [e,List.getElem?_eq_getElem (show 0 < l.length by (first|lia|omega)),List.getElem?_eq_getElem (show l.length - 1 - 0 < l.length by (first|lia|omega))] at h0
 exact (List.pairwise_iff_getElem.mp nd) 0 (l.length - 1 - 0) (by (first|lia|omega)) (by (first|lia|omega)) (by (first|lia|omega)) (Option.some.inj h0)
theorem rot_ne {α:Type} {l:List α} (nd:l.Nodup) (h:1 < l.length):l.drop 1 ++ l.take 1 ≠ l:=fun e=>by
 have h0:(l.drop 1 ++ l.take 1)[0]? = l[0]?:=by rw [e]
 rw [List.getElem?_append_left (by rw [List.length_drop]; (first|lia|omega)),List.getElem?_drop] at h0
 rw [List.getElem?_eq_getElem (show 0 < l.length by (first|lia|omega)),List.getElem?_eq_getElem (show 1 + 0 < l.length by (first|lia|omega))] at h0
 exact (List.pairwise_iff_getElem.mp nd) 0 (1 + 0) (by (first|lia|omega)) (by (first|lia|omega)) (by (first|lia|omega)) (Option.some.inj h0).symm
theorem dats_rev {H:Hp}:∀ {us:List V} {ds:List PyData},Dats H us ds->Dats H us.reverse ds.reverse
 | _,_,.nil=>.nil
 | _,_,.cons a b=>by
  rw [List.reverse_cons,List.reverse_cons]
  exact dats_app (dats_rev b) (.cons a .nil)
theorem log_of {n:Int} (h0:0<=n) (h:n < 2 ^ 400):n.natAbs.log2 < 1920:=by
 by_cases z:n.natAbs=0
 ·rw [z]; decide
 ·rw [Nat.log2_lt z]
  have:n.natAbs < 2 ^ 400:=by
   have e:(n.natAbs:Int)=n:=Int.natAbs_of_nonneg h0
   have:(n.natAbs:Int) < ((2 ^ 400:Nat):Int):=by rw [e,Int.natCast_pow]; exact h
   exact Int.ofNat_lt.mp this
  exact Nat.lt_of_lt_of_le this (Nat.pow_le_pow_right (by decide) (by decide))
def spOddP (K:PySem.W.Frag):Sp:=fun vs H Q _=>∃ (t:Addr) (i:Nat) (us:List V) (qs:List Row),vs=[.ref t,.int i]/\H t=some (.tup us)/\Dats H us (qs.map rowD)/\i < qs.length/\qs.length<=30/\(qs.map (·.1)).Nodup/\(∀ q ∈ qs,nameB q.1=true)/\(∀ q ∈ qs,q.1 ≠ Str.ofString "zzzzzz")/\(∀ q ∈ qs,0<=q.2)/\(∀ q ∈ qs,q.2 < 2 ^ 400) /\
 ∀ (H':Hp) (D:Addr) (ts:List V),Same H H'->H' D=some (.lst ts)->(∀ u ∈ ts,PricesIs K H' u (qs.map (·.1)) false)->ts.length<=60->Q (.ref D) H'
end L2
namespace K17
open PySem L2
def top (i:Nat):Stmt:=PySem.Challenge.pw_openhouses_k17_things_that_are_no_prices.main.body.getD i (.Pass ⟨0,0,0,0⟩)
abbrev s_is_name:Stmt:=top 2
theorem sc_is_name:FnScope ["thing"] ["thing"] (defScope s_is_name):=⟨rfl,rfl,rfl,by decide +kernel,rfl,by decide +kernel,by decide +kernel⟩
abbrev s_is_whole:Stmt:=top 4
theorem sc_is_whole:FnScope ["thing"] ["thing"] (defScope s_is_whole):=⟨rfl,rfl,rfl,by decide +kernel,rfl,by decide +kernel,by decide +kernel⟩
abbrev s_is_whole_from:Stmt:=top 5
theorem sc_is_whole_from:FnScope ["thing","least"] ["thing","least"] (defScope s_is_whole_from):=⟨rfl,rfl,rfl,by decide +kernel,rfl,by decide +kernel,by decide +kernel⟩
abbrev s_neighbours:Stmt:=top 7
theorem sc_neighbours:FnScope ["web","places","ways","beside","one","other","length"] ["web"] (defScope s_neighbours):=⟨rfl,rfl,rfl,by decide +kernel,rfl,by decide +kernel,by decide +kernel⟩
abbrev s_fars:Stmt:=top 9
theorem sc_fars:FnScope ["web","place","told"] ["web","place"] (defScope s_fars):=⟨rfl,rfl,rfl,by decide +kernel,rfl,by decide +kernel,by decide +kernel⟩
abbrev s_site_fars:Stmt:=top 10
theorem sc_site_fars:FnScope ["case"] ["case"] (defScope s_site_fars):=⟨rfl,rfl,rfl,by decide +kernel,rfl,by decide +kernel,by decide +kernel⟩
abbrev s_nearest:Stmt:=top 11
theorem sc_nearest:FnScope ["web","starts","beside","reached","settled","so_far","start","here","name","by_here"] ["web","starts"] (defScope s_nearest):=⟨rfl,rfl,rfl,by decide +kernel,rfl,by decide +kernel,by decide +kernel⟩
abbrev s_are_folk_rows:Stmt:=top 13
theorem sc_are_folk_rows:FnScope ["case","thing"] ["case","thing"] (defScope s_are_folk_rows):=⟨rfl,rfl,rfl,by decide +kernel,rfl,by decide +kernel,by decide +kernel⟩
abbrev s_are_rows:Stmt:=top 14
theorem sc_are_rows:FnScope ["thing","places"] ["thing","places"] (defScope s_are_rows):=⟨rfl,rfl,rfl,by decide +kernel,rfl,by decide +kernel,by decide +kernel⟩
abbrev s_is_row_of:Stmt:=top 15
theorem sc_is_row_of:FnScope ["row","place"] ["row","place"] (defScope s_is_row_of):=⟨rfl,rfl,rfl,by decide +kernel,rfl,by decide +kernel,by decide +kernel⟩
abbrev s_gets_from:Stmt:=top 17
theorem sc_gets_from:FnScope ["case","prices","away","manys"] ["case","prices","away"] (defScope s_gets_from):=⟨rfl,rfl,rfl,by decide +kernel,rfl,by decide +kernel,by decide +kernel⟩
abbrev s_stand:Stmt:=top 18
theorem sc_stand:FnScope ["case","prices","levy"] ["case","prices","levy"] (defScope s_stand):=⟨rfl,rfl,rfl,by decide +kernel,rfl,by decide +kernel,by decide +kernel⟩
abbrev s_stand_by:Stmt:=top 19
theorem sc_stand_by:FnScope ["case","aways","prices","levy"] ["case","aways","prices","levy"] (defScope s_stand_by):=⟨rfl,rfl,rfl,by decide +kernel,rfl,by decide +kernel,by decide +kernel⟩
abbrev s_are_prices:Stmt:=top 20
theorem sc_are_prices:FnScope ["case","thing"] ["case","thing"] (defScope s_are_prices):=⟨rfl,rfl,rfl,by decide +kernel,rfl,by decide +kernel,by decide +kernel⟩
abbrev s_is_levy:Stmt:=top 21
theorem sc_is_levy:FnScope ["case","thing"] ["case","thing"] (defScope s_is_levy):=⟨rfl,rfl,rfl,by decide +kernel,rfl,by decide +kernel,by decide +kernel⟩
abbrev s_law_pen:Stmt:=top 23
theorem sc_law_pen:FnScope ["_law_script","_law_k","_law_cell"] ["_law_script","_law_k"] (defScope s_law_pen):=⟨rfl,rfl,rfl,by decide +kernel,rfl,by decide +kernel,by decide +kernel⟩
abbrev s_law_take:Stmt:=top 24
theorem sc_law_take:FnScope ["_law_pen_here","_law_many","_law_digit","_law_number"] ["_law_pen_here","_law_many"] (defScope s_law_take):=⟨rfl,rfl,rfl,by decide +kernel,rfl,by decide +kernel,by decide +kernel⟩
abbrev s_law_names:Stmt:=top 25
theorem sc_law_names:FnScope ["_law_pen_here","_law_many","_law_letters","_law_base","_law_at","_law_first","_law_step","_law_more","_law_found","_law_k","_law_sign"] ["_law_pen_here","_law_many"] (defScope s_law_names):=⟨rfl,rfl,rfl,by decide +kernel,rfl,by decide +kernel,by decide +kernel⟩
abbrev s_law_ways:Stmt:=top 26
theorem sc_law_ways:FnScope ["_law_pen_here","_law_names_here","_law_kind","_law_size","_law_pairs","_law_k","_law_other","_law_one"] ["_law_pen_here","_law_names_here","_law_kind"] (defScope s_law_ways):=⟨rfl,rfl,rfl,by decide +kernel,rfl,by decide +kernel,by decide +kernel⟩
abbrev s_law_some:Stmt:=top 27
theorem sc_law_some:FnScope ["_law_pen_here","_law_names_here","_law_most","_law_pool"] ["_law_pen_here","_law_names_here","_law_most"] (defScope s_law_some):=⟨rfl,rfl,rfl,by decide +kernel,rfl,by decide +kernel,by decide +kernel⟩
abbrev s_law_case:Stmt:=top 28
theorem sc_law_case:FnScope ["_law_pen_here","_law_kind","_law_wide","_law_names_here","_law_much","_law_ways_here","_law_dear","_law_sites","_law_folk","_law_limit"] ["_law_pen_here","_law_kind"] (defScope s_law_case):=⟨rfl,rfl,rfl,by decide +kernel,rfl,by decide +kernel,by decide +kernel⟩
abbrev s_law_fars:Stmt:=top 29
theorem sc_law_fars:FnScope ["_law_case_here","_law_places","_law_ways_here","_law_away","_law_one","_law_other","_law_length","_law_by","_law_both"] ["_law_case_here"] (defScope s_law_fars):=⟨rfl,rfl,rfl,by decide +kernel,rfl,by decide +kernel,by decide +kernel⟩
abbrev s_law_gets:Stmt:=top 33
theorem sc_law_gets:FnScope ["_law_case_here","_law_away","_law_prices_here","_law_site","_law_found","_law_place","_law_many"] ["_law_case_here","_law_away","_law_prices_here","_law_site"] (defScope s_law_gets):=⟨rfl,rfl,rfl,by decide +kernel,rfl,by decide +kernel,by decide +kernel⟩
abbrev s_law_raised:Stmt:=top 36
theorem sc_law_raised:FnScope ["_law_case_here","_law_away","_law_prices_here","_law_levy","_law_at","_law_place","_law_price","_law_many","_law_others","_law_some_here","_law_site","_law_dues"] ["_law_case_here","_law_away","_law_prices_here","_law_levy","_law_at"] (defScope s_law_raised):=⟨rfl,rfl,rfl,by decide +kernel,rfl,by decide +kernel,by decide +kernel⟩
abbrev s_law_prices:Stmt:=top 37
theorem sc_law_prices:FnScope ["_law_pen_here","_law_case_here","_law_away","_law_levy","_law_prices_here","_law_order","_law_k","_law_at","_law_full","_law_some_here"] ["_law_pen_here","_law_case_here","_law_away","_law_levy"] (defScope s_law_prices):=⟨rfl,rfl,rfl,by decide +kernel,rfl,by decide +kernel,by decide +kernel⟩
abbrev s_law_odd_prices:Stmt:=top 38
theorem sc_law_odd_prices:FnScope ["_law_prices_here","_law_at","_law_place","_law_price","_law_some_here","_law_rows","_law_bad"] ["_law_prices_here","_law_at"] (defScope s_law_odd_prices):=⟨rfl,rfl,rfl,by decide +kernel,rfl,by decide +kernel,by decide +kernel⟩
abbrev s_law:Stmt:=top 39
theorem sc_law:FnScope ["_law_script","_law_k","_law_pen_here","_law_case_here","_law_levy","_law_prices_here","_law_thing"] ["_law_script"] (defScope s_law):=⟨rfl,rfl,rfl,by decide +kernel,rfl,by decide +kernel,by decide +kernel⟩
section
variable {P:Program} {w:World} {K:PySem.W.Frag} {mg:Str->Option Value} {base:Heap}
theorem ok_law_pen (h_abs:mg "abs"=none) (h_len:mg "len"=none) {f:Addr} {fd:FuncData} (F:Fun K "_law_pen" "_law_pen" s_law_pen f fd):FnOk P w K mg base CX0 1 f fd ["_law_script","_law_k"] (spPenT K):=by
 refine F.ok sc_law_pen (fun vs H Q E h=>?_) (fun cdv A outer s H vs Q E hr h=>?_)
 ·obtain ⟨a,ns,k,rfl,_⟩:=h
  rfl
 ·obtain ⟨a,ns,k,rfl,hS,k0,q⟩:=h
  have nd:=sc_law_pen.nd
  have hu:=hu_of hr
  have hu64:=hr.units
  have big:100000 < sizeLine:=by decide
  refine ⟨_,(pss_cons (ps_set (i:=2) nd rfl (Or.inl rfl) (pe_op op_add (pe_op op_mul pe_int (pv 1)) pe_int))
  (pss_cons (ps_if (pt_cmpR op_lt (pv 1) (pe_callB call_len_seq (by rfl) h_len PySem.boot_len (pa_cons (pv 0) pa_nil)) (nomark _))
  (pss_one (ps_set (i:=2) nd rfl (Or.inl rfl) (pe_ix ix_list (pv 0) (pv 1) (fun _ _=>rfl))))
  pss_nil)
  (pss_cons (ps_if (pt_cmpR op_ge (pe_callB call_abs (by rfl) h_abs PyProof.Rows.boot_abs (pa_cons (pv 2) pa_nil)) (pe_op op_pow pe_int pe_int) (nomark _))
  (pss_one (ps_ret (pe_lst (pa_cons (pe_callB call_abs (by rfl) h_abs PyProof.Rows.boot_abs (pa_cons (pv 2) pa_nil)) (pa_cons pe_int (pa_cons (pv 1) pa_nil))))))
  pss_nil)
  (pss_one (ps_ret (pe_lst (pa_cons (pe_op op_add (pe_op op_mod (pv 2) pe_int) (pe_op op_mul pe_int (pv 1))) (pa_cons pe_int (pa_cons (pv 1) pa_nil))))))))),?_⟩
  have hS1:=hS.sq
  refine ⟨_,rfl,_,_,rfl,rfl,.inl ⟨by decide,by decide⟩,_,_,rfl,rfl,?_⟩
  refine ⟨_,rfl,_,rfl,a,_,rfl,.inl hS1,_,_,rfl,rfl,_,rfl,?_⟩
  refine ite2 (fun hlt=>?_) (fun _=>?_)
  ·rw [decide_eq_true_eq,List.length_map] at hlt
   obtain ⟨c,hc⟩:=at_ns (ns:=ns) (i:=k) k0 hlt
   refine ⟨_,rfl,_,rfl,a,_,_,_,rfl,rfl,hS1,hc,?_⟩
   refine ⟨_,rfl,_,rfl,_,_,rfl,rfl,⟨by decide,by decide,by decide⟩,_,_,rfl,rfl,_,rfl,?_⟩
   refine ite2 (fun _=>?_) (fun _=>?_)
   ·exact ⟨_,rfl,_,rfl,_,rfl,(by show 3<=sizeLine; decide),fun p hp=>q p _ _ _ hp⟩
   ·exact ⟨_,rfl,_,_,rfl,rfl,(by show (0:Int) < 2147483629; decide),_,rfl,_,_,rfl,rfl,.inl ⟨by decide,by decide⟩,_,_,rfl,rfl,_,rfl,(by show 3<=sizeLine; decide),fun p hp=>q p _ _ _ hp⟩
  ·refine ⟨_,rfl,_,rfl,_,_,rfl,rfl,⟨by decide,by decide,by decide⟩,_,_,rfl,rfl,_,rfl,?_⟩
   refine ite2 (fun _=>?_) (fun _=>?_)
   ·exact ⟨_,rfl,_,rfl,_,rfl,(by show 3<=sizeLine; decide),fun p hp=>q p _ _ _ hp⟩
   ·exact ⟨_,rfl,_,_,rfl,rfl,(by show (0:Int) < 2147483629; decide),_,rfl,_,_,rfl,rfl,.inl ⟨by decide,by decide⟩,_,_,rfl,rfl,_,rfl,(by show 3<=sizeLine; decide),fun p hp=>q p _ _ _ hp⟩
theorem ok_law_take  {f:Addr} {fd:FuncData} (F:Fun K "_law_take" "_law_take" s_law_take f fd):FnOk P w K mg base CX0 1 f fd ["_law_pen_here","_law_many"] spTakeT:=by
 refine F.ok sc_law_take (fun vs H Q E h=>?_) (fun cdv A outer s H vs Q E hr h=>?_)
 ·obtain ⟨p,m,rfl,_⟩:=h
  rfl
 ·obtain ⟨p,m,rfl,⟨a,b,c,hp⟩,hm,hm2,k⟩:=h
  have nd:=sc_law_take.nd
  have hu:=hu_of hr
  have hu64:=hr.units
  have big:100000 < sizeLine:=by decide
  refine ⟨_,(pss_cons (ps_if (pt_cmpR op_eq (pe_ix ix_list (pv 0) pe_int (fun _ _=>rfl)) pe_int (nomark _))
  (pss_cons (ps_set (i:=2) nd rfl (Or.inl rfl) (pe_op op_mod (pe_ix ix_list (pv 0) pe_int (fun _ _=>rfl)) (pv 1)))
  (pss_cons (ps_asg (pe_op op_fdivB (pe_ix ix_list (pv 0) pe_int (fun _ _=>rfl)) (pv 1)) (pg_sub (pv 0) pe_int set_list))
  (pss_one (ps_ret (pv 2)))))
  pss_nil)
  (pss_cons (ps_asg (pe_op op_add (pe_ix ix_list (pv 0) pe_int (fun _ _=>rfl)) pe_int) (pg_sub (pv 0) pe_int set_list))
  (pss_cons (ps_set (i:=3) nd rfl (Or.inl rfl) (pe_op op_mod (pe_op op_add (pe_op op_add (pe_op op_mul (pe_ix ix_list (pv 0) pe_int (fun _ _=>rfl)) pe_int) (pe_op op_mul pe_int (pe_ix ix_list (pv 0) pe_int (fun _ _=>rfl)))) pe_int) pe_int))
  (pss_cons (ps_asg (pe_op op_mod (pe_op op_add (pe_op op_add (pe_op op_mul (pv 3) (pe_op op_add (pe_op op_mod (pv 3) pe_int) pe_int)) (pe_op op_mul pe_int (pe_ix ix_list (pv 0) pe_int (fun _ _=>rfl)))) pe_int) pe_int) (pg_sub (pv 0) pe_int set_list))
  (pss_one (ps_ret (pe_op op_mod (pe_op op_fdivB (pe_ix ix_list (pv 0) pe_int (fun _ _=>rfl)) pe_int) (pv 1)))))))),?_⟩
  have sq:∀ {H':Hp} {a b c:Int},H' p=some (.lst (penL a b c))->SqL K H' p (penL a b c):=fun h=>.inl (.inl h)
  refine ⟨_,rfl,p,_,_,_,rfl,rfl,sq hp,penL_1 _ _ _,rfl,_,rfl,?_⟩
  refine ite2 (fun _=>?_) (fun _=>?_)
  ·refine ⟨_,rfl,p,_,_,_,rfl,rfl,sq hp,penL_0 _ _ _,_,rfl,_,_,rfl,rfl,hm,?_⟩
   refine ⟨_,rfl,p,_,_,_,rfl,rfl,sq hp,penL_0 _ _ _,_,rfl,_,_,rfl,rfl,⟨hm,hm2⟩,_,rfl,p,_,_,0,rfl,rfl,hp,rfl,_,rfl,?_⟩
   exact k _ _ _ _ (Int.emod_nonneg _ (by (first|lia|omega))) (Int.emod_lt_of_pos _ hm)
  ·refine ⟨_,rfl,p,_,_,_,rfl,rfl,sq hp,penL_2 _ _ _,_,_,rfl,rfl,_,rfl,p,_,_,2,rfl,rfl,hp,rfl,?_⟩
   have hp1:(upd H p (.lst (penL a b (c + 1)))) p=some (.lst (penL a b (c + 1))):=upd_same
   refine ⟨_,rfl,p,_,_,_,rfl,rfl,sq hp1,penL_0 _ _ _,_,_,rfl,rfl,.inr ⟨by decide,by decide⟩,_,rfl,p,_,_,_,rfl,rfl,sq hp1,penL_2 _ _ _,_,_,rfl,rfl,.inl ⟨by decide,by decide⟩,_,_,rfl,rfl,_,_,rfl,rfl,_,_,rfl,rfl,(by show (0:Int) < 2147483647; decide),?_⟩
   have h0:0<=(a * 48271 + 30011 * (c + 1) + 977) % 2147483647:=Int.emod_nonneg _ (by decide)
   have h1:(a * 48271 + 30011 * (c + 1) + 977) % 2147483647 < 2147483647:=Int.emod_lt_of_pos _ (by decide)
   refine ⟨_,rfl,_,rfl,_,_,rfl,rfl,(by show (0:Int) < 65521; decide),_,_,rfl,rfl,_,_,rfl,rfl,.inl ⟨Int.lt_of_lt_of_le (b:=0) (by decide) h0,Int.lt_trans h1 (by decide)⟩,_,rfl,p,_,_,_,rfl,rfl,sq hp1,penL_2 _ _ _,_,_,rfl,rfl,.inl ⟨by decide,by decide⟩,_,_,rfl,rfl,_,_,rfl,rfl,_,_,rfl,rfl,(by show (0:Int) < 2147483587; decide),_,rfl,p,_,_,0,rfl,rfl,hp1,rfl,?_⟩
   refine ⟨_,rfl,p,_,_,_,rfl,rfl,sq upd_same,penL_0 _ _ _,_,_,rfl,rfl,⟨by decide,by decide⟩,_,rfl,_,_,rfl,rfl,hm,?_⟩
   rw [upd_upd]
   exact k _ _ _ _ (Int.emod_nonneg _ (by (first|lia|omega))) (Int.emod_lt_of_pos _ hm)
end
section
variable {P:Program} {w:World} {K:PySem.W.Frag} {mg:Str->Option Value} {base:Heap}
theorem ok_law_some (h_len:mg "len"=none) (h_list:mg "list"=none) (h_min:mg "min"=none) (h_range:mg "range"=none) {fT:Addr} {fdT:FuncData} (XT:Fn K mg "_law_take" s_law_take ["_law_pen_here","_law_many"] fT fdT) (GT:FnOk P w K mg base CX0 1 fT fdT ["_law_pen_here","_law_many"] spTakeT) {f:Addr} {fd:FuncData} (F:Fun K "_law_some" "_law_some" s_law_some f fd):FnOk P w K mg base CX0 2 f fd ["_law_pen_here","_law_names_here","_law_most"] spSomeL:=by
 refine F.ok sc_law_some (fun vs H Q E h=>?_) (fun cdv A outer s H vs Q E hr h=>?_)
 ·obtain ⟨p,e,xs,most,rfl,_⟩:=h
  rfl
 ·obtain ⟨p,e,xs,most,rfl,P0,he,nep,x1,x30,m1,m30,k⟩:=h
  have nd:=sc_law_some.nd
  have hu:=hu_of hr
  have hu64:=hr.units
  have big:100000 < sizeLine:=by decide
  refine ⟨_,(pss_cons (ps_set (i:=3) nd rfl (Or.inr rfl) (pe_callTy call_list_of (by rfl) h_list PyProof.Rows.boot_list (pa_cons (pv 1) pa_nil)))
  (pss_one (ps_ret (pe_comp (N:=["_law_k","_law_pen_here","_law_pool"]) (σ0:=fun σ=>[none,some 0,some 3].map fun j=>j.bind fun j=>(σ[j]?).join) rfl (CompOk.caught (by rfl) (by decide +kernel) rfl (by decide +kernel) (by intro y hy; simp only [List.mem_cons,List.not_mem_nil,or_false] at hy; rcases hy with rfl | rfl <;> rfl)
   (by intro y hy e; simp only [List.mem_cons,List.not_mem_nil,or_false] at hy; rcases hy with rfl | rfl | rfl | rfl | rfl | rfl <;> first | exact ⟨_,rfl⟩ | cases e)) (fun σ _=>Carry.of [none,some 0,some 3] rfl (by
   intro i j x h1 h2
   match i,h1,h2 with
   | 0,_,h2=>cases h2
   | 1,h1,h2=>cases h1; cases h2; exact ⟨rfl,.inl rfl,.inl rfl⟩
   | 2,h1,h2=>cases h1; cases h2; exact ⟨rfl,.inl rfl,.inl rfl⟩
   | n + 3,h1,_=>cases h1)) (pi_range1 (by rfl) h_range (pa_cons (pe_callB (call_min2 rfl) (by rfl) h_min PyProof.Rows.boot_min (pa_cons (pe_callB call_len_seq (by rfl) h_len PySem.boot_len (pa_cons (pv 1) pa_nil)) (pa_cons (pe_op op_add pe_int (pe_call GT (hr.mono (by decide)) (by rfl) XT.mg XT.F.kp XT.b .nil pass0 (pa_cons (pv 0) (pa_cons (pv 2) pa_nil)))) pa_nil))) pa_nil))
   (fun s2 H C fp=>⟨(pg_name (i:=0) (show (["_law_k","_law_pen_here","_law_pool"]:List Str).Nodup by decide +kernel) rfl (Or.inl rfl)),pts_nil,(pe_bmK K rfl PySem.F.plainAttrs_list PySem.F.slot_list_pop PySem.F.type_list_pop mt_popAt (pv 2) (pa_cons (pe_call GT (hr.mono (by decide)) (by rfl) XT.mg XT.F.kp XT.b .nil pass0 (pa_cons (pv 1) (pa_cons (pe_callB (call_len_seqK K rfl) (by rfl) h_len PySem.boot_len (pa_cons (pv 2) pa_nil)) pa_nil))) pa_nil))⟩))))),?_⟩
  refine ⟨_,rfl,e,_,rfl,.inl (SqL.of he),fun PL hPL=>?_⟩
  have s0:=same_upd (o:=.lst (xs.map V.str)) hPL
  have nPL:PL ≠ p:=P0.ne hPL
  have P1:PnAt (upd H PL (.lst (xs.map V.str))) p:=P0.other nPL
  have hPP:(upd H PL (.lst (xs.map V.str))) PL=some (.lst (xs.map V.str)):=upd_same
  generalize upd H PL (.lst (xs.map V.str))=H1 at s0 P1 hPP
  refine ⟨_,rfl,e,_,rfl,.inl (SqL.of (s0 _ _ he)),_,rfl,_,rfl,p,most,rfl,P1,by (first|lia|omega),by (first|lia|omega),fun d a b c d0 d1=>⟨_,_,rfl,rfl,_,_,rfl,_,rfl,?_,?_,?_⟩⟩
  ·split <;> (first|lia|omega)
  ·split <;> (first|lia|omega)
  rw [List.length_map]
  obtain ⟨n,en,n1,nm,nx⟩:∃ n:Nat,(if (1 + d) < (xs.length:Int) then (1 + d) else (xs.length:Int)).toNat=n/\1<=n/\(n:Int)<=most/\n<=xs.length:=by
   refine ⟨_,rfl,?_,?_,?_⟩ <;> (split <;> (first|lia|omega))
  rw [en]
  have P2:PnAt (upd H1 p (.lst (penL a b c))) p:=PnAt.set a b c
  have hP2:(upd H1 p (.lst (penL a b c))) PL=some (.lst (xs.map V.str)):=by rw [upd_ne nPL]; exact hPP
  have k2:∀ b' o,b' ≠ p->b' ≠ PL->H b'=some o->(upd H1 p (.lst (penL a b c))) b'=some o:=fun b' o hb _ z=>by rw [upd_ne hb]; exact s0 _ _ z
  have fr:∀ D,(upd H1 p (.lst (penL a b c))) D=none->H D=none:=fun D hD=>by
   have nD:=P2.ne hD
   rw [upd_ne nD] at hD
   cases z:H D with
   | none=>rfl
   | some o=>rw [s0 _ _ z] at hD; cases hD
  generalize upd H1 p (.lst (penL a b c))=H2 at P2 hP2 k2 fr
  refine read_rng (n:=n) (fun D i σ H' acc=>∃ (v0:Option V) (ys left:List Str),σ=[v0,some (.ref p),some (.ref PL)]/\PnAt H' p/\(∀ b o,b ≠ p->b ≠ PL->H b=some o->H' b=some o)/\H' PL=some (.lst (left.map V.str))/\H' D=some (.lst acc)/\acc=ys.map V.str/\acc.length=i/\(ys ++ left).Perm xs)
   (by (first|lia|omega)) (fun D hD=>⟨_,[],xs,rfl,P2.other (P2.ne hD),fun b o h1 h2 z=>by rw [upd_ne (ne_of_none z (fr D hD))]; exact k2 b o h1 h2 z,by rw [upd_ne (ne_of_none hP2 hD)]; exact hP2,upd_same,rfl,rfl,List.Perm.refl _⟩)
   (fun D i σ H' acc hD ⟨v0,ys,left,_,_,_,_,hDD,_,al,_⟩=>⟨hDD,al⟩) ?_ ?_
  ·rintro D i σ H' acc B hD hi ⟨v0,ys,left,rfl,P3,k3,h3,hDD,ea,al,pm⟩ hB
   have yl:ys.length=i:=by rw [<-al,ea,List.length_map]
   have ll:ys.length + left.length=xs.length:=by rw [<-List.length_append]; exact pm.length_eq
   have nD:=P2.ne hD
   have nDP:D ≠ PL:=fun z=>by rw [z,hP2] at hD; cases hD
   refine ⟨_,rfl,.inl ⟨rfl,_,SqL.of h3⟩,_,rfl,_,rfl,PL,_,rfl,.inl (SqL.of h3),p,_,rfl,P3,?_,?_,fun e' a1 b1 c1 ea1 eb1=>?_⟩
   ·rw [List.length_map]; (first|lia|omega)
   ·rw [List.length_map]; (first|lia|omega)
   rw [List.length_map] at eb1
   obtain ⟨q,rfl⟩:∃ q:Nat,e'=(q:Int):=⟨e'.toNat,by (first|lia|omega)⟩
   have hq:q < left.length:=by (first|lia|omega)
   have hget:left[q]? = some left[q]:=List.getElem?_eq_getElem hq
   have h4:(upd H' p (.lst (penL a1 b1 c1))) PL=some (.lst (left.map V.str)):=by rw [upd_ne nPL]; exact h3
   refine ⟨PL,_,_,q,.str left[q],rfl,rfl,h4,by (first|lia|omega),by (first|lia|omega),?_,by rw [List.getElem?_map,hget]; rfl,?_⟩
   ·rw [List.length_map]
    exact (ixN_seq (by show ixN left.length (q:Int)=some q; unfold ixN; rw [if_pos (by (first|lia|omega)),if_pos (by (first|lia|omega))]; rfl)).1
   rw [map_erase]
   refine hB _ _ _ (by rw [upd_ne nDP,upd_ne nD]; exact hDD) ⟨_,ys ++ [left[q]],left.eraseIdx q,rfl,((PnAt.set a1 b1 c1).other nPL).other nD,fun b' o hb hb' z=>?_,?_,upd_same,by rw [ea,List.map_append]; rfl,by rw [List.length_append,al]; rfl,?_⟩
   ·rw [upd_ne (ne_of_none z (fr D hD)),upd_ne hb',upd_ne hb]
    exact k3 b' o hb hb' z
   ·rw [upd_ne nDP.symm]
    exact upd_same
   ·refine List.Perm.trans ?_ pm
    rw [List.append_assoc]
    exact List.Perm.append_left _ (cons_erase_perm hget)
  ·rintro D σ H' acc hD ⟨v0,ys,left,rfl,P3,k3,h3,hDD,ea,al,pm⟩
   have yl:ys.length=n:=by rw [<-al,ea,List.length_map]
   exact k H' D ys left P3 (fun b' o hb z=>k3 b' o hb (ne_of_none z hPL) z) (fr D hD) (by rw [hDD,ea]) pm (by (first|lia|omega)) (by (first|lia|omega))
end
section
variable {P:Program} {w:World} {K:PySem.W.Frag} {mg:Str->Option Value} {base:Heap}
theorem ok_law_names (h_len:mg "len"=none) (h_range:mg "range"=none) {fT:Addr} {fdT:FuncData} (XT:Fn K mg "_law_take" s_law_take ["_law_pen_here","_law_many"] fT fdT) (GT:FnOk P w K mg base CX0 1 fT fdT ["_law_pen_here","_law_many"] spTakeT) {f:Addr} {fd:FuncData} (F:Fun K "_law_names" "_law_names" s_law_names f fd):FnOk P w K mg base CX0 2 f fd ["_law_pen_here","_law_many"] spNamesZ:=by
 refine F.ok sc_law_names (fun vs H Q E h=>?_) (fun cdv A outer s H vs Q E hr h=>?_)
 ·obtain ⟨p,n,rfl,_⟩:=h
  rfl
 ·obtain ⟨p,n,rfl,hP,hn,k⟩:=h
  have nd:=sc_law_names.nd
  have hu:=hu_of hr
  have hu64:=hr.units
  have big:100000 < sizeLine:=by decide
  refine ⟨_,(pss_cons (ps_set (i:=2) nd rfl (Or.inr rfl) pe_str)
  (pss_cons (ps_set (i:=3) nd rfl (Or.inl rfl) (pe_bm PySem.F.plainAttrs_str PySem.F.slot_str_join PySem.F.type_str_join mt_join pe_str (pa_cons (pe_comp (N:=["_law_k","_law_pen_here","_law_letters"]) (σ0:=fun σ=>[none,some 0,some 2].map fun j=>j.bind fun j=>(σ[j]?).join) rfl (CompOk.caught (by rfl) (by decide +kernel) rfl (by decide +kernel) (by intro y hy; simp only [List.mem_cons,List.not_mem_nil,or_false] at hy; rcases hy with rfl | rfl <;> rfl)
   (by intro y hy e; simp only [List.mem_cons,List.not_mem_nil,or_false] at hy; rcases hy with rfl | rfl | rfl | rfl | rfl <;> first | exact ⟨_,rfl⟩ | cases e)) (fun σ _=>Carry.of [none,some 0,some 2] rfl (by
   intro i j x h1 h2
   match i,h1,h2 with
   | 0,_,h2=>cases h2
   | 1,h1,h2=>cases h1; cases h2; exact ⟨rfl,.inl rfl,.inl rfl⟩
   | 2,h1,h2=>cases h1; cases h2; exact ⟨rfl,.inl rfl,.inl rfl⟩
   | n + 3,h1,_=>cases h1)) (pi_range1 (by rfl) h_range (pa_cons (pe_call GT (hr.mono (by decide)) (by rfl) XT.mg XT.F.kp XT.b .nil pass0 (pa_cons (pv 0) (pa_cons pe_int pa_nil))) pa_nil))
   (fun s2 H C fp=>⟨(pg_name (i:=0) (show (["_law_k","_law_pen_here","_law_letters"]:List Str).Nodup by decide +kernel) rfl (Or.inl rfl)),pts_nil,(pe_ix ix_str (pv 2) (pe_call GT (hr.mono (by decide)) (by rfl) XT.mg XT.F.kp XT.b .nil pass0 (pa_cons (pv 1) (pa_cons pe_int pa_nil))) (fun _ _=>rfl))⟩)) pa_nil)))
  (pss_cons (ps_set (i:=4) nd rfl (Or.inl rfl) (pe_call GT (hr.mono (by decide)) (by rfl) XT.mg XT.F.kp XT.b .nil pass0 (pa_cons (pv 0) (pa_cons (pe_op op_add (pe_callB call_len_str (by rfl) h_len PySem.boot_len (pa_cons (pv 3) pa_nil)) pe_int) pa_nil))))
  (pss_cons (ps_set (i:=5) nd rfl (Or.inl rfl) (pe_call GT (hr.mono (by decide)) (by rfl) XT.mg XT.F.kp XT.b .nil pass0 (pa_cons (pv 0) (pa_cons pe_int pa_nil))))
  (pss_cons (ps_set (i:=6) nd rfl (Or.inl rfl) (pe_ix ix_list (pe_lst (pa_cons pe_int (pa_cons pe_int (pa_cons pe_int (pa_cons pe_int pa_nil))))) (pe_call GT (hr.mono (by decide)) (by rfl) XT.mg XT.F.kp XT.b .nil pass0 (pa_cons (pv 0) (pa_cons pe_int pa_nil))) (fun _ _=>rfl)))
  (pss_cons (ps_set (i:=7) nd rfl (Or.inl rfl) (pe_call GT (hr.mono (by decide)) (by rfl) XT.mg XT.F.kp XT.b .nil pass0 (pa_cons (pv 0) (pa_cons pe_int pa_nil))))
  (pss_cons (ps_set (i:=8) nd rfl (Or.inl rfl) (pe_lst pa_nil))
  (pss_cons (ps_for PassesOwn.never rfl (pi_range1 (by rfl) h_range (pa_cons (pv 1) pa_nil)) (pg_name (i:=9) nd rfl (Or.inl rfl))
  (pss_cons (ps_set (i:=10) nd rfl (Or.inl rfl) (pe_ix ix_str (pv 2) (pe_op op_mod (pe_op op_add (pv 5) (pe_op op_mul (pv 6) (pv 9))) pe_int) (fun _ _=>rfl)))
  (pss_one (ps_expr (pe_bm PySem.F.plainAttrs_list PySem.F.slot_list_append PySem.F.type_list_append mt_append (pv 8) (pa_cons (pe_op op_add_str (pe_op op_add_str (pe_op op_add_str (pe_slice_str (pv 3) po_none (po_some (pv 4))) (pv 10)) (pe_slice_str (pv 3) (po_some (pv 4)) po_none)) (pe_op op_rep01 pe_str (pe_op op_mul (pv 7) (pe_op op_mod (pv 9) pe_int)))) pa_nil))))))
  (pss_one (ps_ret (pv 8))))))))))),?_⟩
  refine ⟨rfl,_,rfl,p,5,rfl,hP,by decide,by decide,fun d a b c da db=>⟨_,rfl,by (first|lia|omega),by (first|lia|omega),?_⟩⟩
  show ∀ D,(upd H p (.lst (penL a b c))) D=none->_
  have P1:PnAt (upd H p (.lst (penL a b c))) p:=PnAt.set a b c
  have q1:Keep p H (upd H p (.lst (penL a b c))):=Keep.upd
  generalize upd H p (.lst (penL a b c))=H1 at P1 q1
  refine read_rng (n:=d.toNat) (fun D i σ H' acc=>∃ (v0:Option V) (ss:List Str),σ=[v0,some (.ref p),some (.str letters)]/\PnAt H' p/\Keep p H1 H'/\H' D=some (.lst acc)/\acc=ss.map V.str/\acc.length=i/\∀ s ∈ ss,s.length=1/\Low s)
   (by (first|lia|omega)) (fun D hD=>⟨_,[],rfl,P1.other (P1.ne hD),Keep.of_same (same_upd hD),upd_same,rfl,rfl,fun s hs=>nomatch hs⟩) (fun D i σ H' acc hD ⟨v0,ss,_,_,_,hDD,_,al,_⟩=>⟨hDD,al⟩) ?_ ?_
  ·rintro D i σ H' acc B hD hi ⟨v0,ss,rfl,P2,q2,hDD,ea,al,lo⟩ hB
   have nD:=P1.ne hD
   refine ⟨_,rfl,_,rfl,p,26,rfl,P2,by decide,by decide,fun e a1 b1 c1 ea1 eb1=>?_⟩
   have lc:=letters_low _ (at_mem (letter_atI ea1 eb1))
   refine ⟨_,_,_,rfl,rfl,by decide,letter_atI ea1 eb1,?_⟩
   refine hB _ _ _ (by rw [upd_ne nD]; exact hDD) ⟨_,ss ++ [⟨#[97 + e.toNat]⟩],rfl,(PnAt.set a1 b1 c1).other nD,fun b' o hb z=>?_,upd_same,by rw [ea,List.map_append]; rfl,by rw [List.length_append,al]; rfl,fun s hs=>?_⟩
   ·rw [upd_ne (ne_of_none z hD),upd_ne hb]
    exact q2 b' o hb z
   ·rcases List.mem_append.mp hs with hs | hs
    ·exact lo s hs
    ·rw [List.mem_singleton] at hs
     subst hs
     refine ⟨rfl,fun c hc=>?_⟩
     have:c=97 + e.toNat:=by simpa using hc
     subst this
     exact lc
  rintro D0 σ0 H2 acc hD0 ⟨v0,ss,rfl,P2,q2,hDD,ea,al,lo⟩
  obtain ⟨j1,j2,j3⟩:=join_low lo
  have sl:ss.length=d.toNat:=by rw [<-al,ea,List.length_map]
  refine ⟨_,D0,ss,rfl,rfl,by rw [hDD,ea],by decide,by (first|lia|omega),?_⟩
  generalize Txt.join (Str.ofString "") ss=bs at j1 j2
  have bl:bs.length<=4:=by (first|lia|omega)
  refine ⟨_,rfl,_,rfl,bs,rfl,by (first|lia|omega),_,_,rfl,rfl,p,_,rfl,P2,by (first|lia|omega),by (first|lia|omega),fun at' a2 b2 c2 at0 at1=>?_⟩
  refine ⟨_,rfl,p,26,rfl,PnAt.set a2 b2 c2,by decide,by decide,fun st a3 b3 c3 st0 st1=>?_⟩
  rw [upd_upd]
  refine ⟨(by show 4<=sizeLine; (first|lia|omega)),fun T8 hT8=>?_⟩
  have n8:T8 ≠ p:=(PnAt.set (H:=H2) (p:=p) a3 b3 c3).ne hT8
  refine ⟨_,rfl,p,4,rfl,(PnAt.set a3 b3 c3).other n8,by decide,by decide,fun e8 a4 b4 c4 e8a e8b=>?_⟩
  obtain ⟨sp,hsp⟩:=at_ns (ns:=[1,5,7,11]) e8a e8b
  refine ⟨T8,_,_,.int sp,rfl,rfl,SqL.of (by rw [upd_ne n8]; exact upd_same),hsp,?_⟩
  have spm:sp ∈ ([1,3,5,7,9,11,15,17]:List Int):=by
   have:=at_mem hsp
   simp only [List.map_cons,List.map_nil,List.mem_cons,V.int.injEq,List.not_mem_nil,or_false] at this
   rcases this with rfl | rfl | rfl | rfl <;> simp
  have spb:0<=sp/\sp<=17:=by
   simp only [List.mem_cons,List.not_mem_nil,or_false] at spm
   rcases spm with rfl | rfl | rfl | rfl | rfl | rfl | rfl | rfl <;> (first|lia|omega)
  have P4:PnAt (upd (upd (upd H2 p (.lst (penL a3 b3 c3))) T8 (.lst [.int 1,.int 5,.int 7,.int 11])) p (.lst (penL a4 b4 c4))) p:=PnAt.set _ _ _
  have q4:Keep p H2 (upd (upd (upd H2 p (.lst (penL a3 b3 c3))) T8 (.lst [.int 1,.int 5,.int 7,.int 11])) p (.lst (penL a4 b4 c4))):=(Keep.upd.trans (Keep.of_same (same_upd hT8))).trans Keep.upd
  generalize upd (upd (upd H2 p (.lst (penL a3 b3 c3))) T8 (.lst [.int 1,.int 5,.int 7,.int 11])) p (.lst (penL a4 b4 c4))=H4 at P4 q4
  refine ⟨_,rfl,p,2,rfl,P4,by decide,by decide,fun mo a5 b5 c5 mo0 mo1=>?_⟩
  have P5:PnAt (upd H4 p (.lst (penL a5 b5 c5))) p:=PnAt.set _ _ _
  have q5:Keep p H (upd H4 p (.lst (penL a5 b5 c5))):=((q1.trans q2).trans q4).trans Keep.upd
  generalize upd H4 p (.lst (penL a5 b5 c5))=H5 at P5 q5
  refine ⟨(by show 0<=sizeLine; (first|lia|omega)),fun D hD=>?_⟩
  have nD:D ≠ p:=P5.ne hD
  have fD:H D=none:=by
   cases z:H D with
   | none=>rfl
   | some o=>rw [q5 _ _ nD z] at hD; cases hD
  refine ⟨_,rfl,n,rfl,by (first|lia|omega),by (first|lia|omega),?_⟩
  refine for_range (n:=n) (lo:=0) (fun j σ H'=>∃ (xs:List Str) (v9 v10:Option V),σ=[some (.ref p),some (.int n),some (.str letters),some (.str bs),some (.int at'),some (.int st),some (.int sp),some (.int mo),some (.ref D),v9,v10]/\H'=upd H5 D (.lst (xs.map V.str))/\xs.length=j/\(∀ x ∈ xs,nameB x=true)/\(∀ x ∈ xs,x ≠ Str.ofString "zzzzzz")/\∀ (i:Nat) x,xs[i]? = some x->∃ tl,x.cps.toList=(Txt.slice bs none (some at')).cps.toList ++ (ownL n st sp i ++ tl))
   ⟨[],_,_,rfl,rfl,rfl,(fun x hx=>nomatch hx),(fun x hx=>nomatch hx),(fun i x e=>by simp at e)⟩ ?_ ?_
  ·rintro j σ H' hj ⟨xs,v9,v10,rfl,rfl,xl,nm,nz,sh⟩
   have r0:0<=(st + sp * (0 + (j:Int))) % 26:=Int.emod_nonneg _ (by decide)
   have r1:(st + sp * (0 + (j:Int))) % 26 < 26:=Int.emod_lt_of_pos _ (by decide)
   refine ⟨_,rfl,_,rfl,_,rfl,_,rfl,_,_,rfl,rfl,.inl ⟨by (first|lia|omega),by (first|lia|omega)⟩,_,_,rfl,rfl,_,_,rfl,rfl,(by show (0:Int) < 26; decide),_,_,_,rfl,rfl,by decide,letter_atI r0 r1,?_⟩
   have lc:=letters_low _ (at_mem (letter_atI r0 r1))
   have s1:=slice_to (z:=bs) at0 (by (first|lia|omega))
   have s2:=slice_from (z:=bs) at0 (by (first|lia|omega))
   have w1:=slice_low (z:=bs) none (some at') j1
   have w2:=slice_low (z:=bs) (some at') none j1
   have dD:(upd H5 D (.lst (xs.map V.str))) D=some (.lst (xs.map V.str)):=upd_same
   have m01:mo * ((0 + (j:Int)) % 2)=0\/mo * ((0 + (j:Int)) % 2)=1:=by
    have e1:mo=0\/mo=1:=by (first|lia|omega)
    have e2:(0 + (j:Int)) % 2=0\/(0 + (j:Int)) % 2=1:=by (first|lia|omega)
    rcases e1 with rfl | rfl <;> rcases e2 with e2 | e2 <;> rw [e2] <;> simp
   have hz:∀ z:Str,z=(if mo * ((0 + (j:Int)) % 2)=1 then Str.ofString "n" else Str.empty)->z.length<=1/\Low z:=fun z e=>by
    subst e
    split
    ·refine ⟨by decide,fun c hc=>?_⟩
     have e:(Str.ofString "n").cps.toList=[110]:=by decide +kernel
     rw [e,List.mem_singleton] at hc
     subst hc
     decide
    ·exact ⟨by decide,fun c hc=>by cases hc⟩
   obtain ⟨zz,ezz⟩:∃ zz,zz=(if mo * ((0 + (j:Int)) % 2)=1 then Str.ofString "n" else Str.empty):=⟨_,rfl⟩
   obtain ⟨z1,z2⟩:=hz zz ezz
   have fin:∀ (x:Str),x=Txt.slice bs none (some at') ++ ⟨#[97 + ((st + sp * (0 + (j:Int))) % 26).toNat]⟩ ++ Txt.slice bs (some at') none ++ zz->nameB x=true/\x ≠ Str.ofString "zzzzzz"/\∃ tl,x.cps.toList=(Txt.slice bs none (some at')).cps.toList ++ (ownL n st sp j ++ tl):=fun x e=>by
    have ec:x.cps.toList=(Txt.slice bs none (some at')).cps.toList ++ ([97 + ((st + sp * (0 + (j:Int))) % 26).toNat] ++ ((Txt.slice bs (some at') none).cps.toList ++ zz.cps.toList)):=by
     rw [e,Str.cps_append,Str.cps_append,Str.cps_append,Array.toList_append,Array.toList_append,Array.toList_append,List.append_assoc,List.append_assoc]
    have el:x.length=(Txt.slice bs none (some at')).length + 1 + (Txt.slice bs (some at') none).length + zz.length:=by
     rw [e,Str.length_append,Str.length_append,Str.length_append]
     rfl
    refine ⟨nameB_of (by (first|lia|omega)) (by (first|lia|omega)) fun c hc=>?_,fun hx=>?_,?_⟩
    ·rw [ec,List.mem_append,List.mem_append,List.mem_append,List.mem_singleton] at hc
     rcases hc with hc | hc | hc | hc
     ·exact w1 c hc
     ·rw [hc]; exact lc
     ·exact w2 c hc
     ·exact z2 c hc
    ·have l6:(Str.ofString "zzzzzz").length=6:=by decide +kernel
     have l0:Str.empty.length=0:=rfl
     by_cases hm:mo * ((0 + (j:Int)) % 2)=1
     ·have h1:110 ∈ x.cps.toList:=by
       rw [ec,ezz,if_pos hm,show (Str.ofString "n").cps.toList=[110] by decide +kernel]
       simp
      rw [hx,show (Str.ofString "zzzzzz").cps.toList=[122,122,122,122,122,122] by decide +kernel] at h1
      simp at h1
     ·rw [ezz,if_neg hm,hx,l6,l0] at el
      (first|lia|omega)
    ·refine ⟨(Txt.slice bs (some at') none).cps.toList ++ zz.cps.toList,?_⟩
     rw [ec]
     unfold ownL
     rw [if_neg (by (first|lia|omega)),Int.zero_add]
   refine ⟨_,rfl,.inl ⟨rfl,_,SqL.of dD⟩,_,rfl,_,rfl,_,rfl,bs,rfl,by (first|lia|omega),_,rfl,_,_,rfl,rfl,?_,_,rfl,_,rfl,_,rfl,bs,rfl,by (first|lia|omega),_,_,rfl,rfl,?_,_,rfl,_,rfl,_,_,rfl,rfl,(by show (0:Int) < 2; decide),_,_,rfl,rfl,.inl ⟨by (first|lia|omega),by (first|lia|omega)⟩,_,_,rfl,rfl,m01,_,_,rfl,rfl,?_,D,_,_,rfl,rfl,dD,(by rw [List.length_map]; (first|lia|omega)),?_⟩
   ·show (Txt.slice bs none (some at')).length + 1<=sizeLine
    (first|lia|omega)
   ·rw [Str.length_append]
    show (Txt.slice bs none (some at')).length + 1 + _<=sizeLine
    (first|lia|omega)
   ·rw [<-ezz,Str.length_append,Str.length_append]
    show (Txt.slice bs none (some at')).length + 1 + _ + _<=sizeLine
    (first|lia|omega)
   rw [<-ezz]
   obtain ⟨f1,f3,f2⟩:=fin _ rfl
   refine ⟨xs ++ [_],_,_,rfl,by rw [upd_upd,List.map_append]; rfl,by rw [List.length_append,xl]; rfl,fun x hx=>?_,fun x hx=>?_,fun i x e=>?_⟩
   ·rcases List.mem_append.mp hx with hx | hx
    ·exact nm x hx
    ·rw [List.mem_singleton.mp hx]
     exact f1
   ·rcases List.mem_append.mp hx with hx | hx
    ·exact nz x hx
    ·rw [List.mem_singleton.mp hx]
     exact f3
   ·by_cases hi:i < xs.length
    ·rw [List.getElem?_append_left hi] at e
     exact sh i x e
    ·have hi2:i=j:=by
      have:=(List.getElem?_eq_some_iff.mp e).1
      rw [List.length_append,List.length_singleton] at this
      (first|lia|omega)
     subst hi2
     rw [List.getElem?_append_right (by (first|lia|omega)),xl,Nat.sub_self,List.getElem?_cons_zero] at e
     rw [<-Option.some.inj e]
     exact f2
  ·rintro σ H' ⟨xs,v9,v10,rfl,rfl,xl,nm,nz,sh⟩
   exact ⟨_,rfl,k _ D xs (P5.other nD) (fun b' o hb z=>by rw [upd_ne (ne_of_none z fD)]; exact q5 _ _ hb z) fD upd_same xl (names_nodup sh fun i j hij hj tl tl'=>own_ne (by (first|lia|omega)) spm hij (by (first|lia|omega)) tl tl') nm nz⟩
end
section
variable {P:Program} {w:World} {K:PySem.W.Frag} {mg:Str->Option Value} {base:Heap}
theorem ways_end (h_sorted:mg "sorted"=none) (h_tuple:mg "tuple"=none) {fT:Addr} {fdT:FuncData} (XT:Fn K mg "_law_take" s_law_take ["_law_pen_here","_law_many"] fT fdT) (GT:FnOk P w K mg base CX0 1 fT fdT ["_law_pen_here","_law_many"] spTakeT)
  {f:Addr} {cdv:Value} {A:Around} {outer:List Env} {s:Shared} {H:Hp} {E:XK} (hr:Room 1 (A.deeper (PyProof.Rows.envOfC "_law_ways" (defScope s_law_ways) s.heap.objs.size f cdv))) :
  ∃ t,PSs (cxOf CX0 P w K mg base ["_law_pen_here","_law_names_here","_law_kind","_law_size","_law_pairs","_law_k","_law_other","_law_one"] "_law_ways" (defScope s_law_ways) f cdv A outer s H E).nox ((defBody s_law_ways).drop 4) t /\
   ∀ (W:Ends) (H1:Hp) (p e L:Addr) (kd sz:Int) (v5 v6 v7:Option V) (us:List V) (qs:List (Str × Str)) (xs:List Str),PnAt H1 p->H1 L=some (.lst us)->L ≠ p->Tups H1 us (qs.map pairL)->WaysC xs (qs.map pairW)->us.length<=30->1<=sz->sz<=9 ->
    (∀ (H':Hp) (T:Addr) (us':List V) (ws ws0:List Way),PnAt H' p->Keep p H1 H'->H' T=some (.tup us')->Dats H' us' (ws.map wayD)->ws.Perm (ws0.map norm)->WaysC xs ws0->(∀ u ∈ ws0,u.2.2<=9)->ws0.length<=30->W.rt (.ref T) H') ->
    t W [some (.ref p),some (.ref e),some (.int kd),some (.int sz),some (.ref L),v5,v6,v7] H1:=by
 have nd:=sc_law_ways.nd
 have hu:=hu_of hr
 have hu64:=hr.units
 have big:100000 < sizeLine:=by decide
 refine ⟨_,(pss_one (ps_ret (pe_callTy call_tuple_of (by rfl) h_tuple PyProof.Rows.boot_tuple (pa_cons (pe_callB (call_sorted_waysPK K rfl) (by rfl) h_sorted PyProof.Rows.boot_sorted (pa_cons (pe_comp (N:=["_law_pair","_law_pen_here","_law_size"]) (σ0:=fun σ=>[none,some 0,some 3].map fun j=>j.bind fun j=>(σ[j]?).join) rfl (CompOk.caught (by rfl) (by decide +kernel) rfl (by decide +kernel) (by intro y hy; simp only [List.mem_cons,List.not_mem_nil,or_false] at hy; rcases hy with rfl | rfl <;> rfl)
   (by intro y hy e; simp only [List.mem_cons,List.not_mem_nil,or_false] at hy; rcases hy with rfl | rfl | rfl | rfl | rfl | rfl | rfl <;> first | exact ⟨_,rfl⟩ | cases e)) (fun σ _=>Carry.of [none,some 0,some 3] rfl (by
   intro i j x h1 h2
   match i,h1,h2 with
   | 0,_,h2=>cases h2
   | 1,h1,h2=>cases h1; cases h2; exact ⟨rfl,.inl rfl,.inl rfl⟩
   | 2,h1,h2=>cases h1; cases h2; exact ⟨rfl,.inl rfl,.inl rfl⟩
   | n + 3,h1,_=>cases h1)) (pi_list (pv 4))
   (fun s2 H C fp=>⟨(pg_name (i:=0) (show (["_law_pair","_law_pen_here","_law_size"]:List Str).Nodup by decide +kernel) rfl (Or.inl rfl)),pts_nil,(pe_op (op_catTK K rfl) (pe_callTy (call_tuple_ofK K rfl) (by rfl) h_tuple PyProof.Rows.boot_tuple (pa_cons (pe_callB call_sorted_two (by rfl) h_sorted PyProof.Rows.boot_sorted (pa_cons (pv 0) pa_nil)) pa_nil)) (pe_tup (pa_cons (pe_op op_add pe_int (pe_call GT (hr.mono (by decide)) (by rfl) XT.mg XT.F.kp XT.b .nil pass0 (pa_cons (pv 1) (pa_cons (pv 2) pa_nil)))) pa_nil)))⟩)) pa_nil)) pa_nil)))),?_⟩
 intro W H1 p e L kd sz v5 v6 v7 us qs xs P1 hL nL tU wc ul z1 z9 k
 have ql:us.length=qs.length:=by rw [tU.len,List.length_map]
 refine ⟨_,rfl,L,rfl,⟨_,SqL.of hL⟩,?_⟩
 refine read_map over_list (xs:=us) (fun D j σ H' acc=>∃ (v0:Option V) (ls:List Int),σ=[v0,some (.ref p),some (.int sz)]/\PnAt H' p/\Keep p H1 H'/\H' D=some (.lst acc)/\acc.length=j/\ls.length=j/\(∀ l ∈ ls,1<=l/\l<=9)/\Dats H' acc (((qs.zip ls).map fun c=>norm (c.1.2,c.1.1,c.2)).map wayD))
  (by (first|lia|omega)) (fun D hD=>⟨_,[],rfl,P1.other (P1.ne hD),Keep.of_same (same_upd hD),upd_same,rfl,rfl,(fun l hl=>nomatch hl),by rw [List.zip_nil_right]; exact .nil⟩)
  (fun D j σ H' acc hD ⟨v0,ls,_,_,kp,hDD,al,_⟩=>⟨SqL.of (kp _ _ nL hL),hDD,al⟩) ?_ ?_
 ·rintro D j σ H' acc x' B hD ex ⟨v0,ls,rfl,P2,kp,hDD,al,ll,lb,dd⟩ hB
  obtain ⟨t,g,rfl,eg,ht⟩:=tU.get ex
  obtain ⟨q,eq,rfl⟩:∃ q,qs[j]? = some q/\g=pairL q:=by
   rw [List.getElem?_map] at eg
   cases z:qs[j]? with
   | none=>rw [z] at eg; cases eg
   | some q=>rw [z] at eg; exact ⟨q,rfl,(Option.some.inj eg).symm⟩
  have nD:=P1.ne hD
  have tp:t ≠ p:=by intro y; subst y; obtain ⟨_,_,_,y⟩:=P1; rw [y] at ht; cases ht
  have ht2:=kp _ _ tp ht
  refine ⟨_,rfl,t,q.1,q.2,rfl,ht2,fun l hl=>⟨l,_,rfl,.inl ⟨SqL.of upd_same,fun T1 hT1=>?_⟩⟩⟩
  have s1:=(same_upd (o:=.lst [.str (minS q.1 q.2),.str (maxS q.1 q.2)]) hl).trans (same_upd (o:=.tup [.str (minS q.1 q.2),.str (maxS q.1 q.2)]) hT1)
  have hT11:(upd (upd H' l (.lst [.str (minS q.1 q.2),.str (maxS q.1 q.2)])) T1 (.tup [.str (minS q.1 q.2),.str (maxS q.1 q.2)])) T1=some (.tup [.str (minS q.1 q.2),.str (maxS q.1 q.2)]):=upd_same
  have P3:PnAt (upd (upd H' l (.lst [.str (minS q.1 q.2),.str (maxS q.1 q.2)])) T1 (.tup [.str (minS q.1 q.2),.str (maxS q.1 q.2)])) p:=by obtain ⟨_,_,_,z⟩:=P2; exact ⟨_,_,_,s1 _ _ z⟩
  generalize upd (upd H' l (.lst [.str (minS q.1 q.2),.str (maxS q.1 q.2)])) T1 (.tup [.str (minS q.1 q.2),.str (maxS q.1 q.2)])=H3 at s1 hT11 P3
  have n1:T1 ≠ p:=by intro y; subst y; obtain ⟨_,_,_,y⟩:=P3; rw [y] at hT11; cases hT11
  refine ⟨_,rfl,_,rfl,p,sz,rfl,P3,by (first|lia|omega),by (first|lia|omega),fun d a b c d0 d1=>⟨_,_,rfl,rfl,(by show 1<=sizeLine; (first|lia|omega)),fun T2 hT2=>?_⟩⟩
  have hT1b:(upd (upd H3 p (.lst (penL a b c))) T2 (.tup [.int (1 + d)])) T1=some (.tup [.str (minS q.1 q.2),.str (maxS q.1 q.2)]):=same_upd hT2 _ _ (by rw [upd_ne n1]; exact hT11)
  refine ⟨T1,T2,_,_,rfl,rfl,SqT.of hT1b,SqT.of upd_same,by simp,by show 2 + 1<=sizeLine; (first|lia|omega),(fun z=>by cases z),fun _ T hT=>?_⟩
  have P4:PnAt (upd (upd (upd H3 p (.lst (penL a b c))) T2 (.tup [.int (1 + d)])) T (.tup [.str (minS q.1 q.2),.str (maxS q.1 q.2),.int (1 + d)])) p:=by
   have z:PnAt (upd (upd H3 p (.lst (penL a b c))) T2 (.tup [.int (1 + d)])) p:=(PnAt.set a b c).other ((PnAt.set (H:=H3) a b c).ne hT2)
   exact z.other (z.ne hT)
  have k4:∀ b' o,b' ≠ p->H' b'=some o->(upd (upd (upd H3 p (.lst (penL a b c))) T2 (.tup [.int (1 + d)])) T (.tup [.str (minS q.1 q.2),.str (maxS q.1 q.2),.int (1 + d)])) b'=some o:=fun b' o hb z=>same_upd hT _ _ (same_upd hT2 _ _ (by rw [upd_ne hb]; exact s1 _ _ z))
  have hTT:(upd (upd (upd H3 p (.lst (penL a b c))) T2 (.tup [.int (1 + d)])) T (.tup [.str (minS q.1 q.2),.str (maxS q.1 q.2),.int (1 + d)])) T=some (.tup [.str (minS q.1 q.2),.str (maxS q.1 q.2),.int (1 + d)]):=upd_same
  show B _ _ (upd (upd (upd H3 p (.lst (penL a b c))) T2 (.tup [.int (1 + d)])) T (.tup [.str (minS q.1 q.2),.str (maxS q.1 q.2),.int (1 + d)]))
  generalize upd (upd (upd H3 p (.lst (penL a b c))) T2 (.tup [.int (1 + d)])) T (.tup [.str (minS q.1 q.2),.str (maxS q.1 q.2),.int (1 + d)])=H5 at P4 k4 hTT
  have hD5:=k4 _ _ nD hDD
  have nT:T ≠ D:=ne_of hTT hD5 (fun z=>by cases z)
  refine hB _ _ _ hD5 ⟨_,ls ++ [1 + d],rfl,P4.other nD,fun b' o hb z=>by rw [upd_ne (ne_of_none z hD)]; exact k4 _ _ hb (kp _ _ hb z),upd_same,by rw [List.length_append,al]; rfl,by rw [List.length_append,ll]; rfl,fun l hl=>?_,?_⟩
  ·rcases List.mem_append.mp hl with hl | hl
   ·exact lb l hl
   ·rw [List.mem_singleton.mp hl]; (first|lia|omega)
  ·rw [zip_snoc (a:=q) (by rw [ll]; exact eq),List.map_append,List.map_append]
   refine dats_app (way_dats dd fun b' ys z=>?_) (.cons (.tup (vs:=[.str (minS q.1 q.2),.str (maxS q.1 q.2),.int (1 + d)]) (by rw [upd_ne nT]; exact hTT) ?_) .nil)
   ·rw [upd_ne (ne_of z hDD (fun y=>by cases y))]
    exact k4 _ _ (by intro y; subst y; obtain ⟨_,_,_,y⟩:=P2; rw [y] at z; cases z) z
   ·show Dats _ _ [.str (minS q.2 q.1),.str (maxS q.2 q.1),.int (1 + d)]
    rw [minS_comm q.2 q.1,maxS_comm q.2 q.1]
    exact .cons (.str _) (.cons (.str _) (.cons (.int _) .nil))
 ·rintro D σ H' acc hD ⟨v0,ls,rfl,P2,kp,hDD,al,ll,lb,dd⟩
  have nD:=P1.ne hD
  refine ⟨D,acc,_,rfl,SqL.of hDD,dd,fun l vs' ws' hl dd' pm=>⟨l,_,rfl,.inl ⟨SqL.of upd_same,fun T hT=>?_⟩⟩⟩
  have s1:=(same_upd (o:=.lst vs') hl).trans (same_upd (o:=.tup vs') hT)
  refine k _ T vs' ws' ((qs.zip ls).map fun c=>(c.1.2,c.1.1,c.2)) (by obtain ⟨_,_,_,z⟩:=P2; exact ⟨_,_,_,s1 _ _ z⟩) (kp.trans (Keep.of_same s1)) upd_same (way_dats dd' fun b ys z=>s1 _ _ z) (by rw [List.map_map]; exact pm) (wc.lens ?_ ?_) ?_ ?_
  ·rw [List.length_map,List.length_zip,List.length_map]
   (first|lia|omega)
  ·intro i u u' e1 e2
   rw [List.getElem?_map] at e1 e2
   cases z:qs[i]? with
   | none=>rw [z] at e1; cases e1
   | some q=>
    rw [z] at e1
    cases e1
    have hi:=(List.getElem?_eq_some_iff.mp z).1
    have el:ls[i]? = some (ls[i]'(by (first|lia|omega))):=List.getElem?_eq_getElem _
    have ez:(qs.zip ls)[i]? = some (q,ls[i]'(by (first|lia|omega))):=List.getElem?_zip_eq_some.mpr ⟨z,el⟩
    rw [ez] at e2
    cases e2
    exact ⟨rfl,rfl,(lb _ (List.mem_of_getElem? el)).1⟩
  ·intro u hu
   obtain ⟨⟨q,l⟩,hc,rfl⟩:=List.mem_map.mp hu
   exact (lb l (List.of_mem_zip hc).2).2
  ·rw [List.length_map,List.length_zip]
   (first|lia|omega)
theorem ok_law_ways (h_int:mg "int"=none) (h_len:mg "len"=none) (h_range:mg "range"=none) (h_sorted:mg "sorted"=none) (h_tuple:mg "tuple"=none) {fT:Addr} {fdT:FuncData} (XT:Fn K mg "_law_take" s_law_take ["_law_pen_here","_law_many"] fT fdT) (GT:FnOk P w K mg base CX0 1 fT fdT ["_law_pen_here","_law_many"] spTakeT) {f:Addr} {fd:FuncData} (F:Fun K "_law_ways" "_law_ways" s_law_ways f fd):FnOk P w K mg base CX0 2 f fd ["_law_pen_here","_law_names_here","_law_kind"] spWaysT:=by
 refine F.ok sc_law_ways (fun vs H Q E h=>?_) (fun cdv A outer s H vs Q E hr h=>?_)
 ·obtain ⟨p,e,xs,kd,rfl,_⟩:=h
  rfl
 ·obtain ⟨p,e,xs,kd,rfl,P0,he,nep,xnd,xnm,x1,x26,k⟩:=h
  have nd:=sc_law_ways.nd
  have hu:=hu_of hr
  have hu64:=hr.units
  obtain ⟨tE,hE,kE⟩:=ways_end (P:=P) (w:=w) (K:=K) (mg:=mg) (base:=base) h_sorted h_tuple XT GT (f:=f) (cdv:=cdv) (A:=A) (outer:=outer) (s:=s) (H:=H) (E:=E) hr
  have big:100000 < sizeLine:=by decide
  refine ⟨_,(pss_cons (ps_set (i:=3) nd rfl (Or.inr rfl) (pe_ix ix_list (pe_lst (pa_cons pe_int (pa_cons pe_int (pa_cons pe_int (pa_cons pe_int pa_nil))))) (pe_call GT (hr.mono (by decide)) (by rfl) XT.mg XT.F.kp XT.b .nil pass0 (pa_cons (pv 0) (pa_cons pe_int pa_nil))) (fun _ _=>rfl)))
  (pss_cons (ps_set (i:=4) nd rfl (Or.inl rfl) (pe_lst pa_nil))
  (pss_cons (ps_for PassesOwn.never rfl (pi_range2 (by rfl) h_range (pa_cons pe_int (pa_cons (pe_callB call_len_seq (by rfl) h_len PySem.boot_len (pa_cons (pv 1) pa_nil)) pa_nil))) (pg_name (i:=5) nd rfl (Or.inl rfl))
  (pss_cons (ps_set (i:=6) nd rfl (Or.inl rfl) (pe_ix ix_list (pe_lst (pa_cons (pe_op op_sub (pv 5) pe_int) (pa_cons (pe_call GT (hr.mono (by decide)) (by rfl) XT.mg XT.F.kp XT.b .nil pass0 (pa_cons (pv 0) (pa_cons (pv 5) pa_nil))) pa_nil))) (pe_callTy call_int1 (by rfl) h_int PyProof.Rows.boot_int (pa_cons (pe_cmpR op_gt (pv 2) pe_int (nomark _)) pa_nil)) (fun _ _=>rfl)))
  (pss_one (ps_expr (pe_bm PySem.F.plainAttrs_list PySem.F.slot_list_append PySem.F.type_list_append mt_append (pv 4) (pa_cons (pe_tup (pa_cons (pe_ix ix_list (pv 1) (pv 5) (fun _ _=>rfl)) (pa_cons (pe_ix ix_list (pv 1) (pv 6) (fun _ _=>rfl)) pa_nil))) pa_nil))))))
  (pss_cons (ps_if (pt_cmpR op_eq (pv 2) pe_int (nomark _))
  (pss_one (ps_for PassesOwn.never rfl (pi_range1 (by rfl) h_range (pa_cons (pe_call GT (hr.mono (by decide)) (by rfl) XT.mg XT.F.kp XT.b .nil pass0 (pa_cons (pv 0) (pa_cons pe_int pa_nil))) pa_nil)) (pg_name (i:=5) nd rfl (Or.inl rfl))
  (pss_cons (ps_set (i:=7) nd rfl (Or.inl rfl) (pe_ix ix_list (pv 1) (pe_call GT (hr.mono (by decide)) (by rfl) XT.mg XT.F.kp XT.b .nil pass0 (pa_cons (pv 0) (pa_cons (pe_callB call_len_seq (by rfl) h_len PySem.boot_len (pa_cons (pv 1) pa_nil)) pa_nil))) (fun _ _=>rfl)))
  (pss_cons (ps_set (i:=6) nd rfl (Or.inl rfl) (pe_ix ix_list (pv 1) (pe_call GT (hr.mono (by decide)) (by rfl) XT.mg XT.F.kp XT.b .nil pass0 (pa_cons (pv 0) (pa_cons (pe_callB call_len_seq (by rfl) h_len PySem.boot_len (pa_cons (pv 1) pa_nil)) pa_nil))) (fun _ _=>rfl)))
  (pss_one (ps_if (pw_and (pt_cmpR op_ne (pv 7) (pv 6) (nomark _)) (pw_and (pt_cmpR (op_notIn_tups hu64) (pe_tup (pa_cons (pv 7) (pa_cons (pv 6) pa_nil))) (pv 4) (by rfl)) (pw_and1 (pt_cmpR (op_notIn_tups hu64) (pe_tup (pa_cons (pv 6) (pa_cons (pv 7) pa_nil))) (pv 4) (by rfl))))).pt
  (pss_one (ps_expr (pe_bm PySem.F.plainAttrs_list PySem.F.slot_list_append PySem.F.type_list_append mt_append (pv 4) (pa_cons (pe_tup (pa_cons (pv 7) (pa_cons (pv 6) pa_nil))) pa_nil))))
  pss_nil))))))
  pss_nil)
  hE)))),?_⟩
  refine ⟨(by show 4<=sizeLine; (first|lia|omega)),fun T4 hT4=>?_⟩
  have n4:T4 ≠ p:=P0.ne hT4
  refine ⟨_,rfl,p,4,rfl,P0.other n4,by decide,by decide,fun e4 a1 b1 c1 e4a e4b=>?_⟩
  obtain ⟨sz,hsz⟩:=at_ns (ns:=[1,2,4,9]) e4a e4b
  have szb:1<=sz/\sz<=9:=by
   have:=at_mem hsz
   simp only [List.map_cons,List.map_nil,List.mem_cons,V.int.injEq,List.not_mem_nil,or_false] at this
   rcases this with rfl | rfl | rfl | rfl <;> (first|lia|omega)
  refine ⟨T4,_,_,.int sz,rfl,rfl,SqL.of (by rw [upd_ne n4]; exact upd_same),hsz,?_⟩
  have P1:PnAt (upd (upd H T4 (.lst [.int 1,.int 2,.int 4,.int 9])) p (.lst (penL a1 b1 c1))) p:=PnAt.set _ _ _
  have q1:Keep p H (upd (upd H T4 (.lst [.int 1,.int 2,.int 4,.int 9])) p (.lst (penL a1 b1 c1))):=(Keep.of_same (same_upd hT4)).trans Keep.upd
  generalize upd (upd H T4 (.lst [.int 1,.int 2,.int 4,.int 9])) p (.lst (penL a1 b1 c1))=H1 at P1 q1
  refine ⟨(by show 0<=sizeLine; (first|lia|omega)),fun L hL=>?_⟩
  have nL:L ≠ p:=P1.ne hL
  have he1:=q1 _ _ nep he
  have neL:e ≠ L:=ne_of_none he1 hL
  have s2:=same_upd (o:=.lst []) hL
  refine ⟨_,rfl,e,_,rfl,.inl (SqL.of (s2 _ _ he1)),_,_,rfl,⟨by (first|lia|omega),by (first|lia|omega),by rw [List.length_map]; (first|lia|omega),by rw [List.length_map]; (first|lia|omega)⟩,?_⟩
  refine for_range (lo:=1) (fun j σ H'=>∃ (v5 v6 v7:Option V) (us:List V) (qs:List (Str × Str)),σ=[some (.ref p),some (.ref e),some (.int kd),some (.int sz),some (.ref L),v5,v6,v7]/\PnAt H' p/\(∀ b o,b ≠ p->b ≠ L->H1 b=some o->H' b=some o)/\H' L=some (.lst us)/\Tups H' us (qs.map pairL)/\us.length=j/\Tree xs (j + 1) (qs.map pairW))
   ⟨_,_,_,[],[],rfl,P1.other nL,fun b o _ hb z=>s2 _ _ z,upd_same,.nil,rfl,Tree.nil xs⟩ ?_ ?_
  ·rintro j σ H' hj ⟨v5,v6,v7,us,qs,rfl,P2,k2,hL2,tU,ul,tr⟩
   rw [List.length_map] at hj
   have hj':j + 1 < xs.length:=by (first|lia|omega)
   have he2:=k2 _ _ nep neL he1
   have ql:qs.length=j:=by rw [<-ul,tU.len,List.length_map]
   refine ⟨_,rfl,_,_,rfl,rfl,_,rfl,_,rfl,p,_,rfl,P2,by (first|lia|omega),by (first|lia|omega),fun d a2 b2 c2 d0 d1=>⟨(by show 2<=sizeLine; (first|lia|omega)),fun T2 hT2=>?_⟩⟩
   have P3:PnAt (upd (upd H' p (.lst (penL a2 b2 c2))) T2 (.lst [.int (1 + (j:Int) - 1),.int d])) p:=(PnAt.set a2 b2 c2).other ((PnAt.set (H:=H') a2 b2 c2).ne hT2)
   have k3:∀ b o,b ≠ p->H' b=some o->(upd (upd H' p (.lst (penL a2 b2 c2))) T2 (.lst [.int (1 + (j:Int) - 1),.int d])) b=some o:=fun b o hb z=>same_upd hT2 _ _ (by rw [upd_ne hb]; exact z)
   have hT22:(upd (upd H' p (.lst (penL a2 b2 c2))) T2 (.lst [.int (1 + (j:Int) - 1),.int d])) T2=some (.lst [.int (1 + (j:Int) - 1),.int d]):=upd_same
   generalize upd (upd H' p (.lst (penL a2 b2 c2))) T2 (.lst [.int (1 + (j:Int) - 1),.int d])=H3 at P3 k3 hT22
   obtain ⟨o,hv,o0⟩:∃ o:Nat,atI [V.int (1 + (j:Int) - 1),V.int d] (if decide ((0:Int) < kd)=true then 1 else 0)=some (.int (o:Int))/\o < j + 1:=by
    by_cases z:decide ((0:Int) < kd)=true
    ·rw [if_pos z]
     obtain ⟨o,rfl⟩:∃ o:Nat,d=(o:Int):=⟨d.toNat,by (first|lia|omega)⟩
     exact ⟨o,rfl,by (first|lia|omega)⟩
    ·rw [if_neg z,show 1 + (j:Int) - 1=((j:Nat):Int) by (first|lia|omega)]
     exact ⟨j,rfl,by (first|lia|omega)⟩
   refine ⟨_,rfl,_,_,rfl,rfl,.inr ⟨_,rfl,T2,_,_,_,rfl,rfl,SqL.of hT22,hv,?_⟩⟩
   have he3:=k3 _ _ nep he2
   have hL3:=k3 _ _ nL hL2
   have ea:(xs.map V.str)[j + 1]? = some (.str xs[j + 1]):=by rw [List.getElem?_map,List.getElem?_eq_getElem hj']; rfl
   have eo:(xs.map V.str)[o]? = some (.str (xs[o]'(by (first|lia|omega)))):=by rw [List.getElem?_map,List.getElem?_eq_getElem (by (first|lia|omega))]; rfl
   have e1j:(1 + (j:Int))=((j + 1:Nat):Int):=by (first|lia|omega)
   refine ⟨_,rfl,.inl ⟨rfl,_,SqL.of hL3⟩,_,rfl,_,rfl,e,_,_,_,rfl,rfl,SqL.of he3,(by rw [e1j]; exact atI_nat ea),_,rfl,_,rfl,e,_,_,_,rfl,rfl,SqL.of he3,atI_nat eo,(by show 2<=sizeLine; (first|lia|omega)),fun T hT=>⟨L,_,_,rfl,rfl,same_upd hT _ _ hL3,by (first|lia|omega),?_⟩⟩
   have sT:=same_upd (o:=.tup [.str xs[j + 1],.str (xs[o]'(by (first|lia|omega)))]) hT
   have nT:T ≠ L:=ne_of upd_same (sT _ _ hL3) (fun z=>by cases z)
   have kT:∀ b ys,H' b=some (.tup ys)->(upd (upd H3 T (.tup [.str xs[j + 1],.str (xs[o]'(by (first|lia|omega)))])) L (.lst (us ++ [.ref T]))) b=some (.tup ys):=fun b ys z=>by
    rw [upd_ne (ne_of z hL2 (fun y=>by cases y))]
    exact sT _ _ (k3 _ _ (by intro y; subst y; obtain ⟨_,_,_,y⟩:=P2; rw [y] at z; cases z) z)
   refine ⟨_,_,_,us ++ [.ref T],qs ++ [(xs[j + 1],xs[o]'(by (first|lia|omega)))],rfl,(P3.other (P3.ne hT)).other nL,fun b o' hb hb' z=>by rw [upd_ne hb']; exact sT _ _ (k3 _ _ hb (k2 _ _ hb hb' z)),upd_same,?_,by rw [List.length_append,ul]; rfl,?_⟩
   ·rw [List.map_append]
    exact (tU.keep kT).app (.cons (by rw [upd_ne nT]; exact upd_same) .nil)
   ·rw [List.map_append]
    exact tr.more xnd hj' [o] (by simp) (by intro y hy; rw [List.mem_singleton.mp hy]; exact o0) (by simp) rfl (fun q u y e1 e2=>by
     cases q with
     | zero=>
      simp at e1 e2
      subst e1 e2
      exact ⟨List.getElem?_eq_getElem _,List.getElem?_eq_getElem _,Int.le_refl _⟩
     | succ q=>simp at e2)
  ·rintro σ H' ⟨v5,v6,v7,us,qs,rfl,P2,k2,hL2,tU,ul,tr⟩
   have jx:(((xs.map V.str).length:Int) - 1).toNat + 1=xs.length:=by rw [List.length_map]; (first|lia|omega)
   rw [jx] at tr
   have wc:=(tr.ways xnd).c
   have ul':us.length<=25:=by rw [ul,List.length_map]; (first|lia|omega)
   have last:∀ (H':Hp) (v5 v6 v7:Option V) (us:List V) (qs:List (Str × Str)) (D:Ends),(∀ v H',D.rt v H' ↔ Q v H')->PnAt H' p->(∀ b o,b ≠ p->b ≠ L->H1 b=some o->H' b=some o)->H' L=some (.lst us)->Tups H' us (qs.map pairL)->WaysC xs (qs.map pairW)->us.length<=30->tE D [some (.ref p),some (.ref e),some (.int kd),some (.int sz),some (.ref L),v5,v6,v7] H':=fun H' v5 v6 v7 us qs D hD P3 k3 hL3 tU3 wc3 ul3=>by
    refine kE D H' p e L kd sz v5 v6 v7 us qs xs P3 hL3 nL tU3 wc3 ul3 szb.1 szb.2 fun H2 T us' ws ws0 P4 k4 hT dd pm w0 l9 l30=>(hD _ _).mpr ?_
    exact k H2 T us' ws ws0 P4 (fun b o hb z=>k4 b o hb (k3 b o hb (ne_of_none (q1 _ _ hb z) hL) (q1 _ _ hb z))) hT dd pm w0 l9 l30
   refine ⟨_,rfl,rfl,_,rfl,?_⟩
   refine ite2 (fun _=>?_) (fun _=>last _ _ _ _ us qs _ (fun _ _=>Iff.rfl) P2 k2 hL2 tU wc (by (first|lia|omega)))
   refine ⟨_,rfl,p,5,rfl,P2,by decide,by decide,fun d a2 b2 c2 d0 d1=>⟨_,rfl,by (first|lia|omega),by (first|lia|omega),?_⟩⟩
   refine for_range (lo:=0) (fun j σ H'=>∃ (v5 v6 v7:Option V) (us:List V) (qs:List (Str × Str)),σ=[some (.ref p),some (.ref e),some (.int kd),some (.int sz),some (.ref L),v5,v6,v7]/\PnAt H' p/\(∀ b o,b ≠ p->b ≠ L->H1 b=some o->H' b=some o)/\H' L=some (.lst us)/\Tups H' us (qs.map pairL)/\us.length<=25 + j/\WaysC xs (qs.map pairW))
    ⟨_,_,_,us,qs,rfl,PnAt.set _ _ _,fun b o hb hb' z=>by rw [upd_ne hb]; exact k2 b o hb hb' z,by rw [upd_ne nL]; exact hL2,tU.keep fun b ys z=>by rw [upd_ne (by intro y; subst y; obtain ⟨_,_,_,y⟩:=P2; rw [y] at z; cases z)]; exact z,by (first|lia|omega),wc⟩ ?_ ?_
   ·rintro j σ H3 hj ⟨v5,v6,v7,us,qs,rfl,P3,k3,hL3,tU3,ul3,wc3⟩
    have he3:=k3 _ _ nep neL he1
    have xl0:(0:Int) < ((xs.map V.str).length:Int):=by rw [List.length_map]; (first|lia|omega)
    have xlB:((xs.map V.str).length:Int) < 2 ^ 600:=by rw [List.length_map]; (first|lia|omega)
    refine ⟨_,rfl,_,rfl,_,rfl,e,_,rfl,.inl (SqL.of he3),p,_,rfl,P3,xl0,xlB,fun g a3 b3 c3 g0 g1=>?_⟩
    rw [List.length_map] at g1
    obtain ⟨gn,rfl⟩:∃ n:Nat,g=n:=⟨g.toNat,by (first|lia|omega)⟩
    have hgn:gn < xs.length:=by (first|lia|omega)
    have eg:(xs.map V.str)[gn]? = some (.str xs[gn]):=by rw [List.getElem?_map,List.getElem?_eq_getElem hgn]; rfl
    have P4:PnAt (upd H3 p (.lst (penL a3 b3 c3))) p:=PnAt.set _ _ _
    have k4:∀ b o,b ≠ p->H3 b=some o->(upd H3 p (.lst (penL a3 b3 c3))) b=some o:=fun b o hb z=>by rw [upd_ne hb]; exact z
    generalize upd H3 p (.lst (penL a3 b3 c3))=H4 at P4 k4
    have he4:=k4 _ _ nep he3
    refine ⟨e,_,_,_,rfl,rfl,SqL.of he4,atI_nat eg,?_⟩
    refine ⟨_,rfl,_,rfl,_,rfl,e,_,rfl,.inl (SqL.of he4),p,_,rfl,P4,xl0,xlB,fun h a4 b4 c4 h0 h1=>?_⟩
    rw [List.length_map] at h1
    obtain ⟨hn,rfl⟩:∃ n:Nat,h=n:=⟨h.toNat,by (first|lia|omega)⟩
    have hhn:hn < xs.length:=by (first|lia|omega)
    have eh:(xs.map V.str)[hn]? = some (.str xs[hn]):=by rw [List.getElem?_map,List.getElem?_eq_getElem hhn]; rfl
    have P5:PnAt (upd H4 p (.lst (penL a4 b4 c4))) p:=PnAt.set _ _ _
    have k5:∀ b o,b ≠ p->H3 b=some o->(upd H4 p (.lst (penL a4 b4 c4))) b=some o:=fun b o hb z=>by rw [upd_ne hb]; exact k4 _ _ hb z
    generalize upd H4 p (.lst (penL a4 b4 c4))=H5 at P5 k5
    have he5:=k5 _ _ nep he3
    refine ⟨e,_,_,_,rfl,rfl,SqL.of he5,atI_nat eh,?_⟩
    have m1:xs[gn] ∈ xs:=List.getElem_mem hgn
    have m2:xs[hn] ∈ xs:=List.getElem_mem hhn
    generalize xs[gn]=o1 at m1
    generalize xs[hn]=o2 at m2
    have hL5:=k5 _ _ nL hL3
    have np:∀ {HH:Hp} {b:Addr} {ys:List V},PnAt HH p->HH b=some (.tup ys)->b ≠ p:=fun P z y=>by subst y; obtain ⟨_,_,_,y⟩:=P; rw [y] at z; cases z
    have tU5:Tups H5 us (qs.map pairL):=tU3.keep fun b ys z=>k5 _ _ (np P3 z) z
    refine ⟨_,rfl,_,rfl,rfl,_,rfl,?_⟩
    have inv:∀ {H6:Hp} (v5 v6 v7:Option V),Same H5 H6->∃ (v5' v6' v7':Option V) (us:List V) (qs:List (Str × Str)),[some (.ref p),some (.ref e),some (.int kd),some (.int sz),some (.ref L),v5,v6,v7]=[some (.ref p),some (.ref e),some (.int kd),some (.int sz),some (.ref L),v5',v6',v7']/\PnAt H6 p/\(∀ b o,b ≠ p->b ≠ L->H1 b=some o->H6 b=some o)/\H6 L=some (.lst us)/\Tups H6 us (qs.map pairL)/\us.length<=25 + (j + 1)/\WaysC xs (qs.map pairW):=fun v5 v6 v7 s6=>
     ⟨_,_,_,us,qs,rfl,by obtain ⟨_,_,_,z⟩:=P5; exact ⟨_,_,_,s6 _ _ z⟩,fun b o hb hb' z=>s6 _ _ (k5 _ _ hb (k3 b o hb hb' z)),s6 _ _ hL5,tU5.keep (fun b ys z=>s6 _ _ z),by (first|lia|omega),wc3⟩
    refine ite2 (fun z1=>?_) (fun _=>iteF (inv _ _ _ fun b o z=>z))
    have ne12:o1 ≠ o2:=by
     intro y
     subst y
     simp at z1
    refine ⟨_,rfl,_,rfl,(by show 2<=sizeLine; (first|lia|omega)),fun T1 hT1=>?_⟩
    have t1:=same_upd (o:=.tup [.str o1,.str o2]) hT1
    refine ⟨_,rfl,T1,L,[o1,o2],us,qs.map pairL,rfl,rfl,upd_same,t1 _ _ hL5,tU5.keep (fun b ys z=>t1 _ _ z),_,rfl,?_⟩
    refine ite2 (fun z2=>?_) (fun _=>iteF (inv _ _ _ t1))
    refine ⟨_,rfl,_,rfl,(by show 2<=sizeLine; (first|lia|omega)),fun T2 hT2=>?_⟩
    have t2:=t1.trans (same_upd (o:=.tup [.str o2,.str o1]) hT2)
    refine ⟨_,rfl,T2,L,[o2,o1],us,qs.map pairL,rfl,rfl,upd_same,t2 _ _ hL5,tU5.keep (fun b ys z=>t2 _ _ z),_,rfl,?_⟩
    refine ite2 (fun z3=>?_) (fun _=>inv _ _ _ t2)
    have y2:[o1,o2] ∉ qs.map pairL:=by simpa using z2
    have y3:[o2,o1] ∉ qs.map pairL:=by simpa using z3
    generalize upd (upd H5 T1 (.tup [.str o1,.str o2])) T2 (.tup [.str o2,.str o1])=H6 at t2
    have hL6:=t2 _ _ hL5
    refine ⟨_,rfl,.inl ⟨rfl,_,SqL.of hL6⟩,_,rfl,_,rfl,(by show 2<=sizeLine; (first|lia|omega)),fun T hT=>⟨L,_,_,rfl,rfl,same_upd hT _ _ hL6,by (first|lia|omega),?_⟩⟩
    have sT:=t2.trans (same_upd (o:=.tup [.str o1,.str o2]) hT)
    have nT:T ≠ L:=ne_of upd_same (sT _ _ hL5) (fun z=>by cases z)
    refine ⟨_,_,_,us ++ [.ref T],qs ++ [(o1,o2)],rfl,(by obtain ⟨_,_,_,z⟩:=P5; exact ⟨_,_,_,by rw [upd_ne nL.symm]; exact sT _ _ z⟩),fun b o hb hb' z=>by rw [upd_ne hb']; exact sT _ _ (k5 _ _ hb (k3 b o hb hb' z)),upd_same,?_,by rw [List.length_append]; simp; (first|lia|omega),?_⟩
    ·rw [List.map_append]
     refine (tU5.keep fun b ys z=>?_).app (.cons (by rw [upd_ne nT]; exact upd_same) .nil)
     rw [upd_ne (ne_of z hL5 (fun y=>by cases y))]
     exact sT _ _ z
    ·rw [List.map_append]
     refine wc3.snoc (x:=o2) (y:=o1) m2 m1 (fun y=>ne12 y.symm) (Int.le_refl _) fun u hu=>?_
     obtain ⟨q,hq,rfl⟩:=List.mem_map.mp hu
     have w1:pairL q ∈ qs.map pairL:=List.mem_map.mpr ⟨q,hq,rfl⟩
     rintro ⟨f1 | f1,f2 | f2⟩
     ·exact ne12 (f2.trans f1.symm)
     ·refine y2 ?_
      rw [f1,f2]
      exact w1
     ·refine y3 ?_
      rw [f1,f2]
      exact w1
     ·exact ne12 (f2.trans f1.symm)
   ·rintro σ H3 ⟨v5,v6,v7,us,qs,rfl,P3,k3,hL3,tU3,ul3,wc3⟩
    exact last _ _ _ _ us qs _ (fun _ _=>Iff.rfl) P3 k3 hL3 tU3 wc3 (by (first|lia|omega))
end
section
variable {P:Program} {w:World} {K:PySem.W.Frag} {mg:Str->Option Value} {base:Heap}
theorem ok_neighboursL {f:Addr} {fd:FuncData} (F:Fun K "neighbours" "neighbours" s_neighbours f fd):FnOk P w K mg base CX0 1 f fd ["web"] (spNbrL K):=by
 refine F.ok sc_neighbours (fun vs H Q E h=>?_) (fun cdv A outer s H vs Q E hr h=>?_)
 ·obtain ⟨q,ps,ws,r,rfl,_⟩:=h
  rfl
 ·obtain ⟨q,ps,ws,r,rfl,ok,k⟩:=h
  obtain ⟨tp,tw,us,hq,htp,htw,hD⟩:=ok.web.ex
  have nd:=sc_neighbours.nd
  have hu:=hu_of hr
  have big:1000 < sizeLine:=by decide
  have l30:=ok.l30
  have l64:=ok.l64
  refine ⟨_,pss_cons (ps_asg (pv 0) (pg_tupK K rfl rfl (pgs_cons (pg_name (i:=1) nd rfl (Or.inl rfl)) (pgs_cons (pg_name (i:=2) nd rfl (Or.inl rfl)) pgs_nil))))
   (pss_cons (ps_dcomp (ix:=3) (N:=["place"]) (σ0:=fun _=>[none]) nd rfl (Or.inl rfl) rfl (CompOk.plain (by decide +kernel) (by decide +kernel) rfl (by decide +kernel)) (fun σ _=>Carry.none _ _ _ ["place"] σ) (pi_tupK K rfl (pv 1))
    (fun s2 H C fp=>⟨pg_name (i:=0) (show (["place"]:List Str).Nodup by decide +kernel) rfl (Or.inl rfl),pts_nil,pv 0,pe_dnewK⟩))
   (pss_cons (ps_for PassesOwn.never rfl (pi_tupK K rfl (pv 2)) (pg_tupK K rfl rfl (pgs_cons (pg_name (i:=4) nd rfl (Or.inl rfl)) (pgs_cons (pg_name (i:=5) nd rfl (Or.inl rfl)) (pgs_cons (pg_name (i:=6) nd rfl (Or.inl rfl)) pgs_nil))))
    (pss_cons (ps_dput hu (pe_dget hu (pv 3) (pv 4) (fun _ _=>rfl)) (pv 5) (pv 6) rfl) (pss_one (ps_dput hu (pe_dget hu (pv 3) (pv 5) (fun _ _=>rfl)) (pv 4) (pv 6) rfl))))
   (pss_one (ps_ret (pv 3))))),?_⟩
  refine ⟨_,rfl,q,_,rfl,SqT.of hq,rfl,_,_,rfl,_,_,rfl,rfl,?_⟩
  refine ⟨_,rfl,tp,rfl,⟨_,SqT.of htp⟩,fun C hC=>⟨fun i m σ' H'=>m=ps.length - i/\i<=ps.length/\(∃ v,σ'=[v])/\∃ ds:List Addr,Same H H'/\ds.length=i/\ds.Nodup/\C ∉ ds/\(∀ d ∈ ds,H d=none/\H' d=some (.dK []))/\H' C=some (.dK (sK (nbL (ps.take i) ds))),
   ⟨_,rfl,Nat.zero_le _,⟨_,rfl⟩,[],same_upd hC,rfl,.nil,by simp,by simp,upd_same⟩,?_⟩⟩
  rintro i m σ' H' ⟨rfl,hi,⟨v,rfl⟩,ds,s1,dl,dn,dC,dH,hC1⟩
  have htp1:=s1 _ _ htp
  by_cases hlt:i < ps.length
  ·refine .inr ⟨⟨_,V.str ps[i],SqT.of htp1,by rw [List.getElem?_map,List.getElem?_eq_getElem hlt]; rfl⟩,?_⟩
   rintro x H6 ⟨rfl,hx⟩
   have hx':=hx _ (SqT.of htp1)
   rw [List.getElem?_map,List.getElem?_eq_getElem hlt] at hx'
   cases hx'
   have tl:(ps.take i).length=i:=by rw [List.length_take]; (first|lia|omega)
   have np:ps[i] ∉ (nbL (ps.take i) ds).map (·.1):=by
    rw [nbL_keys (by (first|lia|omega))]
    intro hm
    obtain ⟨j,hj,e⟩:=List.getElem_of_mem hm
    rw [List.getElem_take] at e
    have:=nd_ix ok.nd (List.getElem?_eq_getElem (show j < ps.length by (first|lia|omega))) (by rw [List.getElem?_eq_getElem hlt,e])
    (first|lia|omega)
   refine ⟨_,rfl,fun d hd=>⟨_,Sum.inr ps[i],rfl,same_upd hd _ _ hC1,?_,_,by (first|lia|omega),rfl,hlt,⟨_,rfl⟩,ds ++ [d],fun b o z=>?_,by simp [dl],?_,?_,fun c hc=>?_,?_⟩⟩
   ·rw [sK_len]
    unfold nbL
    rw [List.length_map,List.length_zip]
    (first|lia|omega)
   ·rw [upd_ne (ne_of_none z hC)]
    exact same_upd hd _ _ (s1 _ _ z)
   ·refine List.nodup_append.mpr ⟨dn,List.nodup_cons.mpr ⟨by simp,.nil⟩,fun a ha b hb=>?_⟩
    have e:b=d:=by simpa using hb
    subst e
    rintro rfl
    rw [(dH _ ha).2] at hd
    cases hd
   ·rw [List.mem_append,not_or]
    refine ⟨dC,fun hm=>?_⟩
    have e:C=d:=by simpa using hm
    rw [<-e,hC1] at hd
    cases hd
   ·rcases List.mem_append.mp hc with hc | hc
    ·refine ⟨(dH c hc).1,?_⟩
     rw [upd_ne (fun z=>dC (by rw [<-z]; exact hc))]
     exact same_upd hd _ _ (dH c hc).2
    ·have e:c=d:=by simpa using hc
     subst e
     refine ⟨s1.free hd,?_⟩
     rw [upd_ne (fun z=>by rw [z,hC1] at hd; cases hd)]
     exact upd_same
   ·rw [upd_same,sK_new np]
    have e1:ps.take (i + 1)=ps.take i ++ [ps[i]]:=by rw [List.take_add_one,List.getElem?_eq_getElem hlt]; rfl
    have e2:nbL (ps.take (i + 1)) (ds ++ [d])=nbL (ps.take i) ds ++ [(ps[i],.ref d)]:=by
     unfold nbL
     rw [e1,List.zip_append (by (first|lia|omega)),List.map_append]
     rfl
    rw [e2]
  ·have e0:i=ps.length:=by (first|lia|omega)
   subst e0
   rw [List.take_length] at hC1
   refine .inl ⟨⟨_,SqT.of htp1,by rw [List.length_map]; exact Nat.le_refl _⟩,?_⟩
   have NB0:NB H' C ps ds (Adj (ws.take 0)) 0:=⟨hC1,dl,dn,dC,fun j p d e1 e2=>⟨[],(dH d (List.mem_of_getElem? e2)).2,Nat.le_refl _,fun y=>⟨fun z=>absurd z List.not_mem_nil,fun ⟨u,hu,_⟩=>absurd hu List.not_mem_nil⟩⟩⟩
   have NBV0:NBV H' ps ds (Edge (ws.take 0)):=fun j p d nv e1 e2 hr y v hy=>by
    have:nv=[]:=Rd.inj hr (.inl (dH d (List.mem_of_getElem? e2)).2)
    subst this
    cases hy
   have hwl:us.length=ws.length:=by rw [dats_len hD,List.length_map]
   refine ⟨_,rfl,tw,rfl,⟨_,SqT.of (s1 _ _ htw)⟩,for_tupB (xs:=us) (fun i σ H2=>(∃ v4 v5 v6,σ=[some (.ref q),some (.ref tp),some (.ref tw),some (.ref C),v4,v5,v6])/\Same H H2/\NB H2 C ps ds (Adj (ws.take i)) (2 * i)/\NBV H2 ps ds (Edge (ws.take i))) ⟨⟨_,_,_,rfl⟩,s1,NB0,NBV0⟩ (fun i σ H2 _ hP=>SqT.of (hP.2.1 _ _ htw)) (fun i x σ H2 hx hP rt bk=>?_) (fun σ H2 hP=>?_)⟩
   ·obtain ⟨⟨v4,v5,v6,rfl⟩,s2,nb,nbv⟩:=hP
    obtain ⟨u,t,gu,rfl,ht⟩:=dats_way hD hx
    have hi2:i < ws.length:=(List.getElem?_eq_some_iff.mp gu).1
    have hu2:=ok.ends u (List.mem_of_getElem? gu)
    refine ⟨t,_,rfl,SqT.of (s2 _ _ ht),rfl,_,_,rfl,_,_,rfl,_,_,rfl,rfl,?_⟩
    obtain ⟨j,d,nv,a1,a2,a3,a4,a5,a6⟩:=nb.get ok.nd hu2.1
    obtain ⟨nv',b1,b2,b3⟩:=sK_put nv u.2.1 (.int u.2.2)
    have dH1:∀ c ∈ ds,H c=none:=fun c hc=>(dH c hc).1
    refine ⟨_,rfl,_,rfl,_,rfl,C,_,rfl,?_,_,rfl,d,_,rfl,DPut.k (k:=Sum.inr u.2.1) a4 (by rw [sK_len]; (first|lia|omega)),?_⟩
    ·have:=DGet.k (k:=Sum.inr u.1) nb.top
     rw [a3] at this
     exact this
    rw [b1]
    have nb2:=nb.put ok.nd a1 a2 a4 b2 b3 a6 a5
    have nbv2:=nbv.put ok.nd nb.nd a1 a2 a4 b1 (fun _ _ _=>edge_mono) (edge_new gu)
    have s3:Same H (upd H2 d (.dK (sK nv'))):=fun b o z=>by
     rw [upd_ne (ne_of_none z (dH1 d (List.mem_of_getElem? a2)))]
     exact s2 _ _ z
    generalize upd H2 d (.dK (sK nv'))=H3 at nb2 nbv2 s3 ⊢
    obtain ⟨j',d',mv,c1,c2,c3,c4,c5,c6⟩:=nb2.get ok.nd hu2.2
    obtain ⟨mv',e1,e2,e3⟩:=sK_put mv u.1 (.int u.2.2)
    refine ⟨_,rfl,_,rfl,_,rfl,C,_,rfl,?_,_,rfl,d',_,rfl,DPut.k (k:=Sum.inr u.1) c4 (by rw [sK_len]; (first|lia|omega)),?_⟩
    ·have:=DGet.k (k:=Sum.inr u.2.1) nb2.top
     rw [c3] at this
     exact this
    rw [e1]
    have nb3:=nb2.put ok.nd c1 c2 c4 e2 e3 c6 c5
    have nbv3:=nbv2.put (Ed':=Edge (ws.take (i + 1))) ok.nd nb2.nd c1 c2 c4 e1 (fun _ _ _ h=>h) (edge_new gu).symm
    refine ⟨⟨_,_,_,rfl⟩,fun b o z=>?_,nb3.mono (fun a b=>(adj_take gu a b).symm) (by (first|lia|omega)),nbv3⟩
    rw [upd_ne (ne_of_none z (dH1 d' (List.mem_of_getElem? c2)))]
    exact s3 _ _ z
   ·obtain ⟨⟨v4,v5,v6,rfl⟩,s2,nb,nbv⟩:=hP
    rw [hwl,List.take_length] at nb nbv
    exact ⟨_,rfl,k H2 C ds s2 (nb.mono (fun _ _=>Iff.rfl) (by (first|lia|omega))) nbv hC fun d hd=>(dH d hd).1⟩
end
section
variable {P:Program} {w:World} {K:PySem.W.Frag} {mg:Str->Option Value} {base:Heap}
structure NbF (K:PySem.W.Frag) (mg:Str->Option Value) (f:Addr) (fd:FuncData):Prop where
 F:Fun K "neighbours" "neighbours" s_neighbours f fd
 mg:mg "neighbours"=some (.ref f)
 b:Binds K fd ["web"] []
theorem ok_nearest {f fN:Addr} {fd fdN:FuncData} (NK:NbF K mg fN fdN) (hmi:mg "min"=none) (F:Fun K "nearest" "nearest" s_nearest f fd):FnOk P w K mg base CX0 2 f fd ["web","starts"] (spNear K):=by
 have GN:FnOk P w K mg base CX0 1 fN fdN ["web"] (spNbrL K):=ok_neighboursL NK.F
 refine F.ok sc_nearest (fun vs H Q E h=>?_) (fun cdv A outer s H vs Q E hr h=>?_)
 ·obtain ⟨q,st,ps,ss,ws,r,rfl,_⟩:=h
  rfl
 ·obtain ⟨q,st,ps,ss,ws,r,rfl,ok,pos,uniq,hst,ssne,ssn,sssub,k⟩:=h
  have nd:=sc_nearest.nd
  have hu:=hu_of hr
  have hu64:=hr.units
  have big:1000 < sizeLine:=by decide
  have l30:=ok.l30
  have ssl:ss.length<=30:=by
   have:=len_le_of_sub ssn sssub
   (first|lia|omega)
  refine ⟨_,pss_cons (ps_set (i:=2) nd rfl (Or.inl rfl) (pe_call GN hr (by rfl) NK.mg NK.F.kp NK.b .nil pass0 (pa_cons (pv 0) pa_nil)))
   (pss_cons (ps_set (i:=3) nd rfl (Or.inr rfl) (pe_dcomp (N:=["start"]) (σ0:=fun _=>[none]) rfl (CompOk.plain (by decide +kernel) (by decide +kernel) rfl (by decide +kernel)) (fun σ _=>Carry.none _ _ _ ["start"] σ) (PI.or (pi_listK K rfl (pv 1)) (pi_tupK K rfl (pv 1)))
    (fun s2 H C fp=>⟨pg_name (i:=0) (show (["start"]:List Str).Nodup by decide +kernel) rfl (Or.inl rfl),pts_nil,pv 0,pe_tup (pa_cons pe_int (pa_cons (pv 0) pa_nil))⟩)))
   (pss_cons (ps_set (i:=4) nd rfl (Or.inl rfl) pe_dnewK)
   (pss_cons (ps_while PassesOwn.never (pt_truth (pv 3) (fun _=>rfl))
    (pss_cons (ps_asg (pe_thaw (pe_callB (call_min_keysP rfl hu64) (by rfl) hmi PyProof.Rows.boot_min (pa_cons
      (pe_comp (N:=["name","reached"]) (σ0:=fun σ=>[none,some 3].map fun j=>j.bind fun j=>(σ[j]?).join) rfl
       (CompOk.caught (by rfl) (by decide +kernel) rfl (by decide +kernel) (by intro y hy; simp only [List.mem_cons,List.not_mem_nil,or_false] at hy; rcases hy with rfl <;> rfl)
        (by intro y hy e; simp only [List.mem_cons,List.not_mem_nil,or_false] at hy; rcases hy with rfl | rfl | rfl <;> first | exact ⟨_,rfl⟩ | cases e))
       (fun σ _=>Carry.of [none,some 3] rfl (by
        intro i j x h1 h2
        match i,h1,h2 with
        | 0,_,h2=>cases h2
        | 1,h1,h2=>cases h1; cases h2; exact ⟨rfl,.inl rfl,.inl rfl⟩
        | n + 2,h1,_=>cases h1)) (pi_dict (pv 3))
       (fun s2 H C fp=>⟨pg_name (i:=0) (show (["name","reached"]:List Str).Nodup by decide +kernel) rfl (Or.inl rfl),pts_nil,pe_tup (pa_cons (pe_dget hu (pv 1) (pv 0) (fun _ _=>rfl)) (pa_cons (pv 0) pa_nil))⟩)) pa_nil)))
      (pg_tupK K rfl rfl (pgs_cons (pg_tupK K rfl rfl (pgs_cons (pg_name (i:=5) nd rfl (Or.inl rfl)) (pgs_cons (pg_name (i:=6) nd rfl (Or.inl rfl)) pgs_nil))) (pgs_cons (pg_name (i:=7) nd rfl (Or.inl rfl)) pgs_nil))))
    (pss_cons (ps_ddel (pv 3) (pv 7))
    (pss_cons (ps_dput hu (pv 4) (pv 7) (pe_tup (pa_cons (pv 5) (pa_cons (pv 6) pa_nil))) rfl)
    (pss_one (ps_for PassesOwn.never rfl (pi_dict (pe_dget hu (pv 2) (pv 7) (fun _ _=>rfl))) (pg_name (i:=8) nd rfl (Or.inl rfl))
     (pss_one (ps_if (pt_cmp (pc_dnotin hu (pv 8) (pv 4)))
      (pss_cons (ps_set (i:=9) nd rfl (Or.inl rfl) (pe_tup (pa_cons (pe_op op_add (pv 5) (pe_dget hu (pe_dget hu (pv 2) (pv 7) (fun _ _=>rfl)) (pv 8) (fun _ _=>rfl))) (pa_cons (pv 6) pa_nil))))
      (pss_one (ps_dput hu (pv 3) (pv 8) (pe_callB (call_min_prsP rfl hu64) (by rfl) hmi PyProof.Rows.boot_min (pa_cons (pv 9) (pa_cons (pe_dget2 hu (pv 3) (pv 8) (pv 9) ⟨rfl,rfl,rfl,rfl⟩) pa_nil))) rfl))) pss_nil))))))))
   (pss_one (ps_ret (pv 4)))))),?_⟩
  refine ⟨_,rfl,q,ps,ws,r,rfl,ok,fun H1 B ds s1 nb nbv hB hds=>?_⟩
  have nbAt:∀ a,a ∈ ds->∃ u,H1 a=some u:=fun a hm=>by
   obtain ⟨i,hi,e⟩:=List.getElem_of_mem hm
   have hi2:i < ps.length:=by rw [<-nb.len]; exact hi
   obtain ⟨nv,a1,_⟩:=nb.inner i ps[i] a (List.getElem?_eq_getElem hi2) (by rw [List.getElem?_eq_getElem hi,e])
   exact ⟨_,a1⟩
  have hB1:=nb.top
  rcases hst with hst | hst
  case' inl=>
   refine .inl ⟨_,rfl,st,rfl,⟨_,SqL.of (s1 _ _ hst)⟩,fun RA hRA=>?_⟩
  case' inr=>
   refine .inr ⟨_,rfl,st,rfl,⟨_,SqT.of (s1 _ _ hst)⟩,fun RA hRA=>?_⟩
  all_goals
   refine ⟨fun i m σ' H'=>m=ss.length - i/\i<=ss.length/\(∃ v,σ'=[v])/\∃ nv:List (Str × V),Same H1 H'/\H' RA=some (.dK (sK nv))/\nv.map (·.1)=ss.take i/\∀ y v,(y,v) ∈ nv->PrH H' v (0,y),
    ⟨_,rfl,Nat.zero_le _,⟨_,rfl⟩,[],same_upd hRA,upd_same,rfl,fun y v hy=>absurd hy List.not_mem_nil⟩,?_⟩
   rintro i m σ' H' ⟨rfl,hi,⟨v,rfl⟩,nv,s2,hC1,nk,np⟩
   have hst1:=s2 _ _ (s1 _ _ hst)
   by_cases hlt:i < ss.length
   ·refine .inr ⟨⟨_,V.str ss[i],by first | exact SqL.of hst1 | exact SqT.of hst1,by rw [List.getElem?_map,List.getElem?_eq_getElem hlt]; rfl⟩,?_⟩
    rintro x H6 ⟨rfl,hx⟩
    have hx':=hx _ (by first | exact SqL.of hst1 | exact SqT.of hst1)
    rw [List.getElem?_map,List.getElem?_eq_getElem hlt] at hx'
    cases hx'
    have nn:ss[i] ∉ nv.map (·.1):=by
     rw [nk]
     intro hm
     obtain ⟨j,hj,e⟩:=List.getElem_of_mem hm
     rw [List.length_take] at hj
     rw [List.getElem_take] at e
     have:=nd_ix ssn (List.getElem?_eq_getElem (show j < ss.length by (first|lia|omega))) (by rw [List.getElem?_eq_getElem hlt,e])
     (first|lia|omega)
    have nl:nv.length=i:=by
     have:=congrArg List.length nk
     rw [List.length_map,List.length_take] at this
     (first|lia|omega)
    refine ⟨_,rfl,_,rfl,(by show 2<=sizeLine; (first|lia|omega)),fun t ht=>⟨_,Sum.inr ss[i],rfl,same_upd ht _ _ hC1,by rw [sK_len]; (first|lia|omega),_,by (first|lia|omega),rfl,hlt,⟨_,rfl⟩,nv ++ [(ss[i],.ref t)],fun b o z=>?_,by rw [upd_same,sK_new nn],?_,fun y v hy=>?_⟩⟩
    ·rw [upd_ne (ne_of_none z hRA)]
     exact same_upd ht _ _ (s2 _ _ z)
    ·rw [List.map_append,nk,List.take_add_one,List.getElem?_eq_getElem hlt]; rfl
    ·have tk:∀ b xs,(upd H6 t (.tup [.int 0,.str ss[i]])) b=some (.tup xs)->(upd (upd H6 t (.tup [.int 0,.str ss[i]])) RA (.dK (putK (sK nv) (Sum.inr ss[i]:Key) (.ref t)))) b=some (.tup xs):=fun b xs z=>by
      rw [upd_ne (ne_of z (same_upd ht _ _ hC1) (by intro z; cases z))]; exact z
     rcases List.mem_append.mp hy with hy | hy
     ·exact (np y v hy).same fun b xs z=>tk b xs (same_upd ht _ _ z)
     ·simp only [List.mem_singleton,Prod.mk.injEq] at hy
      obtain ⟨rfl,rfl⟩:=hy
      exact ⟨t,rfl,tk _ _ upd_same⟩
   ·have e0:i=ss.length:=by (first|lia|omega)
    subst e0
    rw [List.take_length] at nk
    refine .inl ⟨⟨_,by first | exact SqL.of hst1 | exact SqT.of hst1,by rw [List.length_map]; exact Nat.le_refl _⟩,fun SA hSA=>?_⟩
    have sS:=same_upd (o:=.dK []) hSA
    have aR:RA ∉ ds/\RA ≠ B/\RA ≠ SA/\H RA=none:=⟨(fun hm=>by obtain ⟨u,e⟩:=nbAt RA hm; rw [hRA] at e; cases e),(fun z=>by rw [z,hB1] at hRA; cases hRA),(fun z=>by rw [<-z,hC1] at hSA; cases hSA),s1.free hRA⟩
    have aS:SA ∉ ds/\SA ≠ B/\SA ≠ RA/\H SA=none:=⟨(fun hm=>by obtain ⟨u,e⟩:=nbAt SA hm; rw [s2 _ _ e] at hSA; cases hSA),(fun z=>by rw [z,s2 _ _ hB1] at hSA; cases hSA),(fun z=>aR.2.2.1 z.symm),(s1.trans s2).free hSA⟩
    have s3:Same H1 (upd H' SA (.dK [])):=s2.trans sS
    have N0:NI H (upd H' SA (.dK [])) ps ws B RA SA ds nv [] (fun _ _=>False) (fun y p=>y ∈ ss/\p=(0,y)):=by
     refine ⟨s1.trans s3,nb.r.same s3,nbv.of nb.r (fun d _ nv z=>by rcases z with a | ⟨o,a⟩; exact .inl (s3 _ _ a); exact .inr ⟨o,s3 _ _ a⟩),sS _ _ hC1,upd_same,⟨by rw [nk]; exact ssn,fun y v hy=>⟨(0,y),(np y v hy).same fun b xs z=>sS _ _ z,by rw [<-nk]; exact List.mem_map.mpr ⟨_,hy,rfl⟩,rfl⟩,fun y p hp=>?_⟩,⟨.nil,fun y v hy=>absurd hy List.not_mem_nil,fun y p hp=>hp.elim⟩,fun y hy=>sssub y (by rw [<-nk]; exact hy),fun y hy=>absurd hy List.not_mem_nil⟩
     obtain ⟨hy,rfl⟩:=hp
     rw [<-nk] at hy
     obtain ⟨⟨z,v⟩,a,b⟩:=List.mem_map.mp hy
     have b':z=y:=b
     subst b'
     exact ⟨v,a,(np z v a).same fun b xs z=>sS _ _ z⟩
    have D0:Dij ws ss (fun _ _=>False) (fun y p=>y ∈ ss/\p=(0,y)):=⟨fun _ _ h=>h.elim,fun y p ⟨h1,h2⟩=>by subst h2; exact ⟨h1,.nil y⟩,fun _ _ _ _ h=>h.elim,fun s hs=>.inr ⟨(0,s),⟨hs,rfl⟩,leP.refl _⟩⟩
    clear hC1 hst1 np
    generalize upd H' SA (.dK [])=H5 at N0 ⊢
    refine ⟨fun m σ H2=>∃ nvR nvS S R v5 v6 v7 v8 v9,m=ps.length - nvS.length/\σ=[some (.ref q),some (.ref st),some (.ref B),some (.ref RA),some (.ref SA),v5,v6,v7,v8,v9]/\NI H H2 ps ws B RA SA ds nvR nvS S R/\Dij ws ss S R/\∀ y p,R y p->∀ q,¬ S y q,
     ⟨_,nv,[],_,_,_,_,_,_,_,rfl,rfl,N0,D0,fun _ _ _ _ h=>h⟩,?_⟩
    clear N0 D0 hSA sS s3 s2 nk
    rintro m σ H2 ⟨nvR,nvS,S,R,v5,v6,v7,v8,v9,rfl,rfl,N,Dj,dis⟩
    refine ⟨_,rfl,_,.inr (.inr ⟨_,N.dR,rfl⟩),?_⟩
    by_cases hne:nvR=[]
    ·subst hne
     refine iteF ?_
     have all:∀ x ∈ ps,∃ q,S x q:=Dj.done (fun y p h=>by obtain ⟨v,a,_⟩:=N.pR.2.2 y p h; cases a) ssne ok.con (fun T x hx tx cl=>ok.con (fun z=>T z->T r) (fun h=>h) (fun a b hab h tb=>h (cl b a hab.symm tb)) x hx tx) sssub
     refine ⟨_,rfl,k H2 SA nvS N.same aS.2.2.2 N.dS N.pS.1 (fun x=>⟨N.subS x,fun hx=>N.inS.mpr (all x hx)⟩) fun y v hy=>?_⟩
     obtain ⟨p,h1,h2⟩:=N.pS.2.1 y v hy
     exact ⟨p,h1,Dj.near y p h2⟩
    ·have hne2:(!(sK nvR).isEmpty)=true:=by cases nvR with
      | nil=>exact absurd rfl hne
      | cons=>rfl
     rw [hne2]
     refine iteT ?_
     obtain ⟨NN,hNN⟩:∃ NN:St->Hp->Prop,NN=fun σ' H'=>∃ m',m' < ps.length - nvS.length/\∃ nvR nvS S R v5 v6 v7 v8 v9,m'=ps.length - nvS.length/\σ'=[some (.ref q),some (.ref st),some (.ref B),some (.ref RA),some (.ref SA),v5,v6,v7,v8,v9]/\NI H H' ps ws B RA SA ds nvR nvS S R/\Dij ws ss S R/\∀ y p,R y p->∀ q,¬ S y q:=⟨_,rfl⟩
     refine ⟨NN,fun σ' H' z=>by rw [hNN] at z; exact z,?_⟩
     have lR:=N.lenR
     have lS:=N.lenS
     refine ⟨_,rfl,RA,_,rfl,.inl N.dR,fun o H3 fz C hC=>?_⟩
     have fz':H3=upd H2 RA (.frz o (.dK (sK nvR))):=by
      rcases fz with ⟨_,e⟩ | ⟨e,_⟩
      ·exact e
      ·rw [N.dR] at e; cases e
     have hR3:=fz.at
     have t23:∀ b xs,H2 b=some (.tup xs)->H3 b=some (.tup xs):=fun b xs z=>by
      rw [fz.ne (ne_of z N.dR (by intro z; cases z))]; exact z
     refine ⟨fun i m σ' H'=>m=nvR.length - i/\i<=nvR.length/\(∃ v,σ'=[v,some (.ref RA)])/\∃ (acc:List V) (ks:List ((Int × Str) × Str)),Same H3 H'/\H' C=some (.lst acc)/\acc.length=i/\ks.length=i/\(∀ (j:Nat) v k,acc[j]? = some v->ks[j]? = some k->KyH H' v k)/\(∀ (j:Nat) y v,j < i->nvR[j]? = some (y,v)->∃ p,PrH H3 v p/\ks[j]? = some (p,y)),
      ⟨_,rfl,Nat.zero_le _,⟨_,rfl⟩,[],[],same_upd hC,upd_same,rfl,rfl,fun j v k h=>(by simp at h),fun j y v hj=>absurd hj (Nat.not_lt_zero _)⟩,?_⟩
     rintro i m σ' H' ⟨rfl,hi,⟨v,rfl⟩,acc,ks,s4,hC1,al,kl,hky,hks⟩
     have hR4:=s4 _ _ hR3
     have nCR:RA ≠ C:=ne_of_none hR3 hC
     by_cases hlt:i < nvR.length
     ·refine .inr ⟨⟨hR4,by rw [sK_len]; exact hlt⟩,?_⟩
      rintro z H6 ⟨rfl,key,v2,ek,rfl⟩
      obtain ⟨y,ey,rfl⟩:=sK_at ek
      have hm:=List.mem_of_getElem? ey
      obtain ⟨p,hp,hRp⟩:=N.pR.2.1 y v2 hm
      have hp3:=hp.same t23
      refine ⟨_,rfl,_,rfl,RA,v2,rfl,.inl ⟨_,Sum.inr y,.inr ⟨o,hR4⟩,rfl,(sK_some N.pR.1 hm).symm⟩,_,rfl,(by show 2<=sizeLine; (first|lia|omega)),fun t ht=>?_⟩
      have st:=same_upd (o:=.tup [v2,.str y]) ht
      have hC2:=st _ _ hC1
      have tC:∀ b xs,(upd H6 t (.tup [v2,.str y])) b=some (.tup xs)->(upd (upd H6 t (.tup [v2,.str y])) C (.lst (acc ++ [.ref t]))) b=some (.tup xs):=fun b xs z=>by
       rw [upd_ne (ne_of z hC2 (by intro z; cases z))]; exact z
      refine ⟨acc,hC2,by (first|lia|omega),_,by (first|lia|omega),rfl,hlt,⟨_,rfl⟩,acc ++ [.ref t],ks ++ [(p,y)],fun b u z=>?_,upd_same,by simp [al],by simp [kl],fun j v k h1 h2=>?_,fun j y' v' hj h=>?_⟩
      ·rw [upd_ne (ne_of_none z hC)]
       exact st _ _ (s4 _ _ z)
      ·by_cases hj:j < acc.length
       ·rw [List.getElem?_append_left hj] at h1
        rw [List.getElem?_append_left (by (first|lia|omega))] at h2
        exact (hky j v k h1 h2).same fun b xs z=>tC b xs (st _ _ z)
       ·rw [List.getElem?_append_right (by (first|lia|omega))] at h1
        rw [List.getElem?_append_right (by (first|lia|omega))] at h2
        have j0:j - acc.length=0:=by
         have:=(List.getElem?_eq_some_iff.mp h1).1
         simp at this
         (first|lia|omega)
        have j1:j - ks.length=0:=by (first|lia|omega)
        rw [j0] at h1
        rw [j1] at h2
        cases h1
        cases h2
        obtain ⟨t2,e2,g2⟩:=hp3
        subst e2
        exact ⟨t,t2,rfl,tC _ _ upd_same,t2,rfl,tC _ _ (st _ _ (s4 _ _ g2))⟩
      ·by_cases ej:j=i
       ·subst ej
        rw [ey] at h
        cases h
        exact ⟨p,hp3,by rw [List.getElem?_append_right (by (first|lia|omega)),kl,Nat.sub_self]; rfl⟩
       ·obtain ⟨p',a1,a2⟩:=hks j y' v' (by (first|lia|omega)) h
        exact ⟨p',a1,by rw [List.getElem?_append_left (by (first|lia|omega))]; exact a2⟩
     ·have e0:i=nvR.length:=by (first|lia|omega)
      subst e0
      have ksne:ks ≠ []:=by
       intro z
       rw [z] at kl
       exact hne (List.length_eq_zero_iff.mp kl.symm)
      refine .inl ⟨⟨hR4,by rw [sK_len]; exact Nat.le_refl _⟩,C,acc,ks,rfl,hC1,by (first|lia|omega),ksne,hky,fun v kk hk hKy hmin=>?_⟩
      refine ⟨RA,o,sK nvR,hR4,fun ob w z=>?_,?_⟩
      ·have z':H RA=some (.frz ob w):=z
       rw [aR.2.2.2] at z'
       cases z'
      obtain ⟨⟨d0,st0⟩,here⟩:=kk
      obtain ⟨t,t2,rfl,ht,t2',e2,ht2⟩:=hKy
      cases e2
      have t45:∀ b xs,H' b=some (.tup xs)->(upd H' RA (.dK (sK nvR))) b=some (.tup xs):=fun b xs z=>by
       rw [upd_ne (ne_of z hR4 (by intro z; cases z))]; exact z
      have s25:Same H2 (upd H' RA (.dK (sK nvR))):=fun b u z=>by
       by_cases eb:b=RA
       ·subst eb
        rw [N.dR] at z
        cases z
        exact upd_same
       ·rw [upd_ne eb]
        refine s4 _ _ ?_
        rw [fz.ne eb]; exact z
      have N5:=N.grow s25
      have ht5:=t45 _ _ ht
      have ht25:=t45 _ _ ht2
      have inR:∀ j y p,ks[j]? = some (p,y)->R y p:=fun j y p h=>by
       have hj:j < nvR.length:=by
        have:=(List.getElem?_eq_some_iff.mp h).1
        (first|lia|omega)
       obtain ⟨p',a1,a2⟩:=hks j nvR[j].1 nvR[j].2 hj (List.getElem?_eq_getElem hj)
       rw [h] at a2
       cases a2
       obtain ⟨p'',b1,b2⟩:=N.pR.2.1 _ _ (List.getElem_mem hj)
       rw [a1.fn (b1.same t23)]
       exact b2
      have hRh:R here (d0,st0):=by
       obtain ⟨j,hj,ej⟩:=List.getElem_of_mem hk
       exact inR j here (d0,st0) (by rw [List.getElem?_eq_getElem hj,ej])
      have least:∀ z p,R z p->leP (d0,st0) p:=fun z p hz=>by
       obtain ⟨v,a,b⟩:=N.pR.2.2 z p hz
       obtain ⟨j,hj,ej⟩:=List.getElem_of_mem a
       obtain ⟨p',a1,a2⟩:=hks j z v hj (by rw [List.getElem?_eq_getElem hj,ej])
       have:=a1.fn (b.same t23)
       subst this
       exact hmin _ (List.mem_of_getElem? a2)
      have nSh:∀ q,¬ S here q:=dis here _ hRh
      have nearH:Near ws ss here (d0,st0):=Dj.pick pos hRh nSh least
      refine ⟨t,_,rfl,SqT.of ht5,rfl,_,_,rfl,t2,_,rfl,SqT.of ht25,rfl,_,_,rfl,_,_,rfl,rfl,_,_,rfl,rfl,?_⟩
      generalize upd H' RA (.dK (sK nvR))=H5 at N5 ht5 ht25 s25 ⊢
      have hin:here ∈ nvR.map (·.1):=N5.inR.mpr ⟨_,hRh⟩
      have hps:here ∈ ps:=N5.subR here hin
      refine ⟨_,rfl,_,rfl,RA,_,Sum.inr here,rfl,N5.dR,rfl,by rw [sK_is,decide_eq_true hin],?_⟩
      rw [sK_drop]
      have N6:=N5.setR aR (N5.pR.drop here) (fun y hy=>by
       obtain ⟨e,he,ee⟩:=List.mem_map.mp hy
       exact N5.subR y (List.mem_map.mpr ⟨e,(List.mem_filter.mp he).1,ee⟩))
      generalize upd H5 RA (.dK (sK (nvR.filter fun q=>decide (q.1 ≠ here))))=H6 at N6 ⊢
      have nhS:here ∉ nvS.map (·.1):=fun h=>by
       obtain ⟨q,hq⟩:=N6.inS.mp h
       exact nSh q hq
      refine ⟨_,rfl,_,rfl,(by show 2<=sizeLine; (first|lia|omega)),fun t3 ht3=>?_⟩
      have N7:=N6.grow (same_upd (o:=.tup [.int d0,.str st0]) ht3)
      have ht37:(upd H6 t3 (.tup [.int d0,.str st0])) t3=some (.tup [.int d0,.str st0]):=upd_same
      generalize upd H6 t3 (.tup [.int d0,.str st0])=H7 at N7 ht37 ⊢
      refine ⟨_,rfl,_,rfl,SA,_,rfl,DPut.k (k:=Sum.inr here) N7.dS (by rw [sK_len]; have:=N7.lenS; (first|lia|omega)),?_⟩
      rw [sK_new nhS]
      have N8:=N7.setS aS (N7.pS.put (sK_new nhS) (p:=(d0,st0)) ⟨t3,rfl,ht37⟩) (fun y hy=>by
       rw [List.map_append] at hy
       rcases List.mem_append.mp hy with hy | hy
       ·exact N7.subS y hy
       ·have:y=here:=by simpa using hy
        rw [this]; exact hps)
      generalize upd H7 SA (.dK (sK (nvS ++ [(here,.ref t3)])))=H8 at N8 ⊢
      obtain ⟨S',hS'⟩:∃ S':Str->Int × Str->Prop,S'=fun z q=>(z=here/\q=(d0,st0))\/(z ≠ here/\S z q):=⟨_,rfl⟩
      obtain ⟨nvS',hnvS⟩:∃ nvS':List (Str × V),nvS'=nvS ++ [(here,.ref t3)]:=⟨_,rfl⟩
      rw [<-hS',<-hnvS] at N8
      have nSl:nvS'.length=nvS.length + 1:=by rw [hnvS]; simp
      have nearS:∀ y q,S' y q->Near ws ss y q:=fun y q h=>by
       rw [hS'] at h
       rcases h with ⟨rfl,rfl⟩ | ⟨_,h⟩
       ·exact nearH
       ·exact Dj.near y q h
      have hSh:S' here (d0,st0):=by rw [hS']; exact .inl ⟨rfl,rfl⟩
      have toS:∀ y q,S y q->∃ q',S' y q':=fun y q h=>by
       by_cases e:y=here
       ·rw [e]; exact ⟨_,hSh⟩
       ·exact ⟨q,by rw [hS']; exact .inr ⟨e,h⟩⟩
      obtain ⟨i0,d,nb',a1,a2,a3,a4,a5⟩:=N8.nr.get ok.nd hps
      have dm:=List.mem_of_getElem? a2
      refine ⟨_,rfl,_,rfl,B,.ref d,rfl,?_,d,sK nb',rfl,a4,fun o9 H9 fz9=>?_⟩
      ·have:=DGet.k (k:=Sum.inr here) N8.nr.top
       rw [a3] at this
       exact this
      have N9:=N8.frz aR.1 aS.1 hds a1 a2 fz9 a5
      obtain ⟨Pv,hPv⟩:∃ Pv:Nat->St->Hp->Prop,Pv=fun i σ H'=>∃ nvR' R' v8 v9,σ=[some (.ref q),some (.ref st),some (.ref B),some (.ref RA),some (.ref SA),some (.int d0),some (.str st0),some (.str here),v8,v9]/\NI H H' ps ws B RA SA ds nvR' nvS' S' R'/\H' d=some (.frz o9 (.dK (sK nb'))) /\
        (∀ y p,R' y p->p.2 ∈ ss/\Wsum ws p.2 y p.1)/\(∀ s ∈ ss,(∃ q,S' s q)\/∃ q,R' s q/\leP q (0,s)) /\
        (∀ x q y l,S' x q->Edge ws x y l->(∃ q',S' y q')\/(∃ q',R' y q'/\leP q' (q.1 + l,q.2))\/(x=here/\∀ (j:Nat) (v:V),j < i->nb'[j]? ≠ some (y,v)))/\(∀ y p,R' y p->∀ q,¬ S' y q):=⟨_,rfl⟩
      refine for_dictB (a:=d) (o:=o9) (kvs:=sK nb') Pv ?_ (fun i σ H' _ hP=>by rw [hPv] at hP; obtain ⟨_,_,_,_,_,_,z,_⟩:=hP; exact z) (fun i key v σ H' hx hP rt bk=>?_) (fun σ H' hP=>?_)
      ·rw [hPv]
       refine ⟨_,_,_,_,rfl,N9,fz9.at,fun y p h=>Dj.reach y p h.2,fun s hs=>?_,fun x qq y l hx he=>?_,fun y p h qq hq=>?_⟩
       ·rcases Dj.start s hs with ⟨qq,h⟩ | ⟨qq,h,le⟩
        ·exact .inl (toS s qq h)
        ·by_cases e:s=here
         ·rw [e]; exact .inl ⟨_,hSh⟩
         ·exact .inr ⟨qq,⟨e,h⟩,le⟩
       ·by_cases ex:x=here
        ·exact .inr (.inr ⟨ex,fun j v hj=>absurd hj (Nat.not_lt_zero _)⟩)
        ·rw [hS'] at hx
         rcases hx with ⟨h,_⟩ | ⟨_,hx⟩
         ·exact absurd h ex
         ·rcases Dj.relax x qq y l hx he with ⟨q',h⟩ | ⟨q',h,le⟩
          ·exact .inl (toS y q' h)
          ·by_cases e:y=here
           ·rw [e]; exact .inl ⟨_,hSh⟩
           ·exact .inr (.inl ⟨q',⟨e,h⟩,le⟩)
       ·rw [hS'] at hq
        rcases hq with ⟨h2,_⟩ | ⟨_,h2⟩
        ·exact h.1 h2
        ·exact dis y p h.2 qq h2
      ·rw [hPv] at hP
       obtain ⟨nvR',R',v8,v9,rfl,N10,hf,rch,sta,rel,dis'⟩:=hP
       obtain ⟨y,e1,rfl⟩:=sK_at hx
       have hym:=List.mem_of_getElem? e1
       obtain ⟨w0,hw0⟩:∃ w0,valV (sK nb') (Sum.inr y:Key)=some w0:=by
        have:(valV (sK nb') (Sum.inr y:Key)).isSome=true:=by rw [sK_is,decide_eq_true (List.mem_map.mpr ⟨_,hym,rfl⟩)]
        exact Option.isSome_iff_exists.mp this
       obtain ⟨l,rfl,ed⟩:=N10.nbv i0 here d nb' a1 a2 (.inr ⟨o9,hf⟩) y w0 (sK_valmem hw0)
       have hyp:y ∈ ps:=by
        obtain ⟨u,hu,e⟩:=ed.adj
        obtain ⟨q1,q2⟩:=ok.ends u hu
        rcases e with ⟨_,e⟩ | ⟨e,_⟩
        ·rw [<-e]; exact q2
        ·rw [<-e]; exact q1
       refine ⟨_,rfl,_,rfl,SA,_,rfl,DGet.k (k:=Sum.inr y) N10.dS,_,rfl,?_⟩
       rw [sK_is]
       have step:∀ {z:Str},(∀ (j:Nat) (v:V),j < i->nb'[j]? ≠ some (z,v))->z ≠ y->∀ (j:Nat) (v:V),j < i + 1->nb'[j]? ≠ some (z,v):=fun h2 hz j v hj e=>by
        by_cases ej:j=i
        ·subst ej
         rw [e1] at e
         cases e
         exact hz rfl
        ·exact h2 j v (by (first|lia|omega)) e
       by_cases hy:y ∈ nvS'.map (·.1)
       ·rw [decide_eq_true hy]
        refine iteF ?_
        show Pv (i + 1) _ _
        rw [hPv]
        refine ⟨nvR',R',_,_,rfl,N10,hf,rch,sta,fun x qq z l' hx' he=>?_,dis'⟩
        rcases rel x qq z l' hx' he with h | h | ⟨h1,h2⟩
        ·exact .inl h
        ·exact .inr (.inl h)
        ·by_cases ez:z=y
         ·rw [ez]; exact .inl (N10.inS.mp hy)
         ·exact .inr (.inr ⟨h1,step h2 ez⟩)
       ·rw [decide_eq_false hy]
        refine iteT ?_
        have nSy:∀ qq,¬ S' y qq:=fun qq h=>hy (N10.inS.mpr ⟨qq,h⟩)
        have dgT:DGet H' B (.str here) (some (.ref d)):=by
         have:=DGet.k (k:=Sum.inr here) N10.nr.top
         rw [a3] at this
         exact this
        refine ⟨_,rfl,_,rfl,_,rfl,B,.ref d,rfl,dgT,_,rfl,d,.int l,rfl,.inl ⟨_,Sum.inr y,.inr ⟨o9,hf⟩,rfl,hw0.symm⟩,_,_,rfl,rfl,_,rfl,(by show 2<=sizeLine; (first|lia|omega)),fun t4 ht4=>?_⟩
        have s4':=same_upd (o:=.tup [.int (d0 + l),.str st0]) ht4
        have N11:=N10.grow s4'
        have hf11:=s4' _ _ hf
        have ht41:(upd H' t4 (.tup [.int (d0 + l),.str st0])) t4=some (.tup [.int (d0 + l),.str st0]):=upd_same
        generalize upd H' t4 (.tup [.int (d0 + l),.str st0])=H11 at N11 hf11 ht41 ⊢
        have cand:PrH H11 (.ref t4) (d0 + l,st0):=⟨t4,rfl,ht41⟩
        have candW:st0 ∈ ss/\Wsum ws st0 y (d0 + l):=⟨nearH.1.1,nearH.1.2.snoc ed⟩
        have lR':=N11.lenR
        have fin:∀ (x:V) (pn:Int × Str),PrH H11 x pn->leP pn (d0 + l,st0)->(∀ old,R' y old->leP pn old)->(pn.2 ∈ ss/\Wsum ws pn.2 y pn.1) ->
          Pv (i + 1) [some (.ref q),some (.ref st),some (.ref B),some (.ref RA),some (.ref SA),some (.int d0),some (.str st0),some (.str here),some (.str y),some (.ref t4)] (upd H11 RA (.dK (putK (sK nvR') (Sum.inr y:Key) x))):=by
         intro x pn hx1 hle hold hW
         obtain ⟨nv2,p1,p2,p3⟩:=sK_put nvR' y x
         rw [p1,hPv]
         have N12:=N11.setR aR (N11.pR.put p1 hx1) (fun z hz=>by
          rcases (p3 z).mp hz with hz | rfl
          ·exact N11.subR z hz
          ·exact hyp)
         refine ⟨nv2,_,_,_,rfl,N12,?_,fun z p hz=>?_,fun s hs=>?_,fun x' qq z l' hx' he=>?_,fun z p hz qq hq=>?_⟩
         ·rw [upd_ne (fun z=>aR.1 (by rw [<-z]; exact dm))]; exact hf11
         ·rcases hz with ⟨rfl,rfl⟩ | ⟨_,hz⟩
          ·exact hW
          ·exact rch z p hz
         ·rcases sta s hs with h | ⟨qq,h,le⟩
          ·exact .inl h
          ·by_cases e:s=y
           ·subst e
            exact .inr ⟨pn,.inl ⟨rfl,rfl⟩,(hold qq h).trans le⟩
           ·exact .inr ⟨qq,.inr ⟨e,h⟩,le⟩
         ·rcases rel x' qq z l' hx' he with h | ⟨q',h,le⟩ | ⟨h1,h2⟩
          ·exact .inl h
          ·by_cases e:z=y
           ·subst e
            exact .inr (.inl ⟨pn,.inl ⟨rfl,rfl⟩,(hold q' h).trans le⟩)
           ·exact .inr (.inl ⟨q',.inr ⟨e,h⟩,le⟩)
          ·by_cases e:z=y
           ·subst e
            subst h1
            have e2:=uniq _ _ _ _ he ed
            subst e2
            have e3:=N11.pS.fn hx' hSh
            subst e3
            exact .inr (.inl ⟨pn,.inl ⟨rfl,rfl⟩,hle⟩)
           ·exact .inr (.inr ⟨h1,step h2 e⟩)
         ·rcases hz with ⟨rfl,rfl⟩ | ⟨_,hz⟩
          ·exact nSy qq hq
          ·exact dis' z p hz qq hq
        have put:∀ {x:V},DPut H11 RA (.str y) x (upd H11 RA (.dK (putK (sK nvR') (Sum.inr y:Key) x))):=fun {x}=>DPut.k (k:=Sum.inr y) N11.dR (by rw [sK_len]; (first|lia|omega))
        obtain ⟨w1,pq,ew,hw1,hold,hWq⟩:∃ w1 pq,(valV (sK nvR') (Sum.inr y:Key)).getD (.ref t4)=w1/\PrH H11 w1 pq/\(∀ old,R' y old->leP pq old)/\(pq.2 ∈ ss/\Wsum ws pq.2 y pq.1):=by
         cases hv:valV (sK nvR') (Sum.inr y:Key) with
         | none=>
          refine ⟨_,_,rfl,cand,fun old h=>?_,candW⟩
          have h1:y ∈ nvR'.map (·.1):=N11.inR.mpr ⟨old,h⟩
          have h2:(valV (sK nvR') (Sum.inr y:Key)).isSome=true:=by rw [sK_is,decide_eq_true h1]
          rw [hv] at h2
          cases h2
         | some w1=>
          obtain ⟨pq,h1,h2⟩:=N11.pR.2.1 y w1 (sK_valmem hv)
          exact ⟨w1,pq,rfl,h1,fun old h=>by rw [N11.pR.fn h2 h]; exact leP.refl _,rch y pq h2⟩
        refine ⟨_,rfl,_,rfl,RA,rfl,.inl ⟨_,.inl N11.dR⟩,_,rfl,_,rfl,_,DGet.k (k:=Sum.inr y) N11.dR,_,_,(d0 + l,st0),pq,rfl,cand,(by rw [ew]; exact hw1),fun le=>⟨_,rfl,_,rfl,RA,_,rfl,put,?_⟩,fun le=>⟨_,rfl,_,rfl,RA,_,rfl,put,?_⟩⟩
        ·rw [ew]
         exact fin w1 pq hw1 le hold hWq
        ·exact fin (.ref t4) _ cand (leP.refl _) (fun old h=>le.trans (hold old h)) candW
      ·rw [hPv] at hP
       obtain ⟨nvR',R',v8,v9,rfl,N10,hf,rch,sta,rel,dis'⟩:=hP
       show NN _ _
       rw [hNN]
       refine ⟨_,?_,nvR',nvS',S',R',_,_,_,_,_,rfl,rfl,N10,⟨nearS,rch,fun x qq y l hx he=>?_,sta⟩,dis'⟩
       ·have:=N10.lenS
        (first|lia|omega)
       ·rcases rel x qq y l hx he with h | h | ⟨rfl,h2⟩
        ·exact .inl h
        ·exact .inr h
        ·exfalso
         obtain ⟨⟨z,v⟩,hm2,e⟩:=List.mem_map.mp ((a5 y).mpr he.adj)
         have e':z=y:=e
         subst e'
         obtain ⟨j,hj,e2⟩:=List.getElem_of_mem hm2
         exact h2 j v (by rw [sK_len]; exact hj) (by rw [List.getElem?_eq_getElem hj,e2])
end
section
variable {P:Program} {w:World} {K:PySem.W.Frag} {mg:Str->Option Value} {base:Heap}
structure NeF (K:PySem.W.Frag) (mg:Str->Option Value) (fN:Addr) (fdN:FuncData) (f:Addr) (fd:FuncData):Prop where
 N:NbF K mg fN fdN
 mi:mg "min"=none
 F:Fun K "nearest" "nearest" s_nearest f fd
 mg:mg "nearest"=some (.ref f)
 b:Binds K fd ["web","starts"] []
theorem ok_fars {f fN fE:Addr} {fd fdN fdE:FuncData} (EK:NeF K mg fN fdN fE fdE) (F:Fun K "fars" "fars" s_fars f fd):FnOk P w K mg base CX0 3 f fd ["web","place"] (spFars K):=by
 have GE:FnOk P w K mg base CX0 2 fE fdE ["web","starts"] (spNear K):=ok_nearest EK.N EK.mi EK.F
 refine F.ok sc_fars (fun vs H Q E h=>?_) (fun cdv A outer s H vs Q E hr h=>?_)
 ·obtain ⟨q,ps,ws,r,x,rfl,_⟩:=h
  rfl
 ·obtain ⟨q,ps,ws,r,x,rfl,ok,pos,uniq,hx,k⟩:=h
  have hu:=hu_of hr
  have nd:=sc_fars.nd
  have big:1000 < sizeLine:=by decide
  have l30:=ok.l30
  refine ⟨_,pss_cons (ps_set (i:=2) nd rfl (Or.inr rfl) (pe_call GE hr (by rfl) EK.mg EK.F.kp EK.b .nil pass0 (pa_cons (pv 0) (pa_cons (pe_lst (pa_cons (pv 1) pa_nil)) pa_nil))))
   (pss_one (ps_ret (pe_dcomp (N:=["name","told"]) (σ0:=fun σ=>[none,some 2].map fun j=>j.bind fun j=>(σ[j]?).join) rfl
      (CompOk.caught (by rfl) (by decide +kernel) rfl (by decide +kernel) (by intro y hy; simp only [List.mem_cons,List.not_mem_nil,or_false] at hy; rcases hy with rfl <;> rfl)
       (by intro y hy e; simp only [List.mem_cons,List.not_mem_nil,or_false] at hy; rcases hy with rfl | rfl | rfl <;> first | exact ⟨_,rfl⟩ | cases e))
      (fun σ _=>Carry.of [none,some 2] rfl (by
       intro i j x h1 h2
       match i,h1,h2 with
       | 0,_,h2=>cases h2
       | 1,h1,h2=>cases h1; cases h2; exact ⟨rfl,.inl rfl,.inl rfl⟩
       | n + 2,h1,_=>cases h1)) (pi_tupK K rfl (pe_ix (ix_tupK K rfl) (pv 0) pe_int (fun _ _=>rfl)))
      (fun s2 H C fp=>⟨pg_name (i:=0) (show (["name","told"]:List Str).Nodup by decide +kernel) rfl (Or.inl rfl),pts_nil,pv 0,pe_ix (ix_tupK K rfl) (pe_dget hu (pv 1) (pv 0) (fun _ _=>rfl)) pe_int (fun _ _=>rfl)⟩)))),?_⟩
  refine ⟨_,rfl,_,rfl,(by show 1<=sizeLine; (first|lia|omega)),fun st hst=>?_⟩
  have s0:=same_upd (o:=.lst [.str x]) hst
  refine ⟨q,st,ps,[x],ws,r,rfl,ok.same s0,pos,uniq,.inl upd_same,by simp,List.nodup_cons.mpr ⟨by simp,.nil⟩,by simpa using hx,fun H1 B nv s1 hB hB1 nn nk nr=>?_⟩
  have s01:=s0.trans s1
  obtain ⟨tp,tw,us,hq,htp,htw,hD⟩:=ok.web.ex
  refine ⟨_,rfl,q,_,0,.ref tp,rfl,rfl,SqT.of (s01 _ _ hq),atI_nat (j:=0) rfl,tp,rfl,⟨_,SqT.of (s01 _ _ htp)⟩,fun C hC=>?_⟩
  refine ⟨fun i m σ' H2=>m=ps.length - i/\i<=ps.length/\(∃ v,σ'=[v,some (.ref B)])/\∃ nc:List (Str × V),H2=upd H1 C (.dK (sK nc))/\nc.map (·.1)=ps.take i/\∀ y v,(y,v) ∈ nc->∃ n,v=.int n/\Dst ws x y n,⟨_,rfl,Nat.zero_le _,⟨_,rfl⟩,[],rfl,rfl,fun y v hy=>absurd hy List.not_mem_nil⟩,?_⟩
  rintro i m σ' H2 ⟨rfl,hi,⟨v,rfl⟩,nc,rfl,ncK,ncV⟩
  have sC:=same_upd (o:=.dK (sK nc)) hC
  have htp1:=sC _ _ (s01 _ _ htp)
  by_cases hlt:i < ps.length
  ·refine .inr ⟨⟨_,V.str ps[i],SqT.of htp1,by rw [List.getElem?_map,List.getElem?_eq_getElem hlt]; rfl⟩,?_⟩
   rintro z H6 ⟨rfl,hz⟩
   have hz':=hz _ (SqT.of htp1)
   rw [List.getElem?_map,List.getElem?_eq_getElem hlt] at hz'
   cases hz'
   obtain ⟨⟨y,v2⟩,hm,e⟩:=List.mem_map.mp ((nk ps[i]).mpr (List.getElem_mem hlt))
   have e':y=ps[i]:=e
   subst e'
   obtain ⟨p,⟨t,e2,ht⟩,hnr⟩:=nr ps[i] v2 hm
   subst e2
   have hB2:=sC _ _ hB1
   have ht2:=sC _ _ ht
   have nn':ps[i] ∉ nc.map (·.1):=by
    rw [ncK]
    intro hm2
    obtain ⟨j,hj,e⟩:=List.getElem_of_mem hm2
    rw [List.length_take] at hj
    rw [List.getElem_take] at e
    have:=nd_ix ok.nd (List.getElem?_eq_getElem (show j < ps.length by (first|lia|omega))) (by rw [List.getElem?_eq_getElem hlt,e])
    (first|lia|omega)
   have ncl:nc.length=i:=by
    have:=congrArg List.length ncK
    rw [List.length_map,List.length_take] at this
    (first|lia|omega)
   refine ⟨_,rfl,_,rfl,_,rfl,B,.ref t,rfl,.inl ⟨_,Sum.inr ps[i],.inl hB2,rfl,(sK_some nn hm).symm⟩,t,_,0,.int p.1,rfl,rfl,SqT.of ht2,atI_nat (j:=0) rfl,_,Sum.inr ps[i],rfl,upd_same,by rw [sK_len]; (first|lia|omega),_,by (first|lia|omega),rfl,hlt,⟨_,rfl⟩,nc ++ [(ps[i],.int p.1)],by rw [upd_upd,sK_new nn'],?_,fun y v hy=>?_⟩
   ·rw [List.map_append,ncK,List.take_add_one,List.getElem?_eq_getElem hlt]; rfl
   ·rcases List.mem_append.mp hy with hy | hy
    ·exact ncV y v hy
    ·simp only [List.mem_singleton,Prod.mk.injEq] at hy
     obtain ⟨rfl,rfl⟩:=hy
     exact ⟨p.1,rfl,hnr.dst.2⟩
  ·have e0:i=ps.length:=by (first|lia|omega)
   subst e0
   rw [List.take_length] at ncK
   exact .inl ⟨⟨_,SqT.of htp1,by rw [List.length_map]; exact Nat.le_refl _⟩,k _ C nc (s01.trans sC) (s01.free hC) upd_same ncK ncV⟩
end
structure TxtN (K:PySem.W.Frag) (mg:Str->Option Value):Prop where
 len:mg "len"=none
 isin:mg "isinstance"=none
 str:mg "str"=none
 all:mg "all"=none
 most:∃ t,mg "MOST_LETTERS"=some (.int 6 t)
section
variable {P:Program} {w:World} {K:PySem.W.Frag} {mg:Str->Option Value} {base:Heap}
theorem ok_name {f:Addr} {fd:FuncData} (T:TxtN K mg) (F:Fun K "is_name" "is_name" s_is_name f fd):FnOk P w K mg base CX0 1 f fd ["thing"] (spName K):=by
 refine F.ok sc_is_name (fun vs H Q E h=>?_) (fun cdv A outer s H vs Q E hr h=>?_)
 ·obtain ⟨x,rfl,_⟩:=h
  rfl
 ·obtain ⟨x,rfl,h⟩:=h
  obtain ⟨tk,hmost⟩:=T.most
  refine ⟨_,pss_cons (ps_if (pw_or (pt_not (pt_val (pe_callB call_isinst (by rfl) T.isin PyProof.Rows.boot_isinstance (pa_cons (pv 0) (pa_cons (pe_bltn (v:=.ty "str") (by rfl) T.str PyProof.Rows.boot_str rfl) pa_nil)))))
    (pw_or1 (pt_not (pt_chain op_le op_le pe_int (pe_callB call_len_str (by rfl) T.len PySem.boot_len (pa_cons (pv 0) pa_nil)) (pe_glob (v:=.int 6) (by rfl) hmost ⟨_,rfl⟩))))).pt
    (pss_one (ps_ret pe_bl)) pss_nil)
   (pss_one (ps_ret (pe_callB (call_all_bl rfl) (by rfl) T.all PyProof.Rows.boot_all (pa_cons
    (pe_comp (N:=["letter"]) (σ0:=fun _=>[none]) rfl (CompOk.plain (by decide +kernel) (by decide +kernel) rfl (by decide +kernel)) (fun σ _=>Carry.none _ _ _ ["letter"] σ) (pi_str (pv 0))
     (fun s2 H C fp=>⟨pg_name (i:=0) (show (["letter"]:List Str).Nodup by decide +kernel) rfl (Or.inl rfl),pts_nil,pe_chain op_le_str op_le_str pe_str (pv 0) pe_str⟩)) pa_nil)))),?_⟩
  rcases h with ⟨t,rfl,ht,k⟩ | ⟨⟨ty,h1,h2⟩,k⟩
  ·refine ⟨_,rfl,_,"str",_,_,rfl,TyOf.str t,rfl,_,rfl,?_⟩
   refine iteF ?_
   refine ⟨_,rfl,t,rfl,Nat.le_trans ht (by decide),_,_,rfl,rfl,_,rfl,?_⟩
   have last:∀ (h1:1<=t.length) (h2:t.length<=6),tComp (iStr (tVar 0)) (gName 0) tYes (tChain (fun x y H Q=>∃ i j,x=.str i/\y=.str j/\Q (.bl (!(decide (j.cps.toList < i.cps.toList)))) H) (fun x y H Q=>∃ i j,x=.str i/\y=.str j/\Q (.bl (!(decide (j.cps.toList < i.cps.toList)))) H) (tC (.str "a")) (tVar 0) (tC (.str "z"))) (fun _=>[none]) [some (V.str t)] H
     (fun x H1=>∃ (p:Addr) (bs:List Bool),[x]=[V.ref p]/\SqL K H1 p (bs.map V.bl)/\Q (.bl (bs.all id)) H1):=by
    intro h1 h2
    refine ⟨_,rfl,t,rfl,fun D hD=>⟨fun i m σ' H'=>m=t.cps.size - i/\i<=t.cps.size/\(∃ v,σ'=[v])/\H'=upd H D (.lst ((t.cps.toList.take i).map fun c=>V.bl (lowc c))),⟨_,rfl,Nat.zero_le _,⟨_,rfl⟩,rfl⟩,?_⟩⟩
    rintro i m σ' H' ⟨rfl,hi,⟨v,rfl⟩,rfl⟩
    by_cases hlt:i < t.cps.size
    ·refine .inr ⟨hlt,?_⟩
     rintro x H2 ⟨rfl,c,hc,rfl⟩
     have hc':t.cps.toList[i]? = some c:=by simpa using hc
     have step:∀ b,b=lowc c->∃ acc,(upd H D (.lst ((t.cps.toList.take i).map fun c=>V.bl (lowc c)))) D=some (.lst acc)/\acc.length < sizeLine/\∃ m',m' < t.cps.size - i/\(m'=t.cps.size - (i + 1)/\i + 1<=t.cps.size/\(∃ v,[some (V.str ⟨#[c]⟩)]=[v]) /\
       upd (upd H D (.lst ((t.cps.toList.take i).map fun c=>V.bl (lowc c)))) D (.lst (acc ++ [V.bl b]))=upd H D (.lst ((t.cps.toList.take (i + 1)).map fun c=>V.bl (lowc c)))):=by
      rintro b rfl
      refine ⟨_,upd_same,?_,_,?_,rfl,hlt,⟨_,rfl⟩,?_⟩
      ·rw [List.length_map,List.length_take]
       have:t.length=t.cps.size:=rfl
       have:1000 < sizeLine:=by decide
       (first|lia|omega)
      ·(first|lia|omega)
      ·rw [upd_upd,take_succ_map _ _ _ _ hc']
     refine ⟨_,rfl,_,_,rfl,rfl,_,rfl,?_⟩
     rw [leA]
     refine ite2 (fun ha=>?_) (fun ha=>?_)
     ·refine ⟨_,_,rfl,rfl,?_⟩
      rw [leZ]
      exact step _ (by unfold lowc; rw [ha]; rfl)
     ·exact step _ (by unfold lowc; rw [Bool.not_eq_true] at ha; rw [ha]; rfl)
    ·have e:i=t.cps.size:=by (first|lia|omega)
     subst e
     refine .inl ⟨Nat.le_refl _,D,t.cps.toList.map lowc,rfl,.inl (.inl ?_),?_⟩
     ·rw [upd_same,List.take_of_length_le (by simp),List.map_map]
      rfl
     ·have e2:(t.cps.toList.map lowc).all id=nameB t:=by
       unfold nameB
       rw [List.all_map,decide_eq_true h1,decide_eq_true h2]
       rfl
      rw [e2]
      exact k _ (same_upd hD)
   refine ite2 (fun h1=>?_) (fun h1=>?_)
   ·refine ⟨_,_,rfl,rfl,_,rfl,?_⟩
    rw [decide_eq_true_eq] at h1
    refine ite2 (fun h2=>?_) (fun h2=>?_)
    ·have e:nameB t=false:=by
      unfold nameB
      have:¬ t.length<=6:=by
       intro z
       rw [decide_eq_true (show ((t.length:Nat):Int)<=6 by (first|lia|omega))] at h2
       cases h2
      rw [decide_eq_false this,Bool.and_false,Bool.false_and]
     rw [<-e]
     exact k _ (Same.refl _)
    ·refine last (by (first|lia|omega)) ?_
     by_cases z:t.length<=6
     ·exact z
     ·rw [decide_eq_false (show ¬ ((t.length:Nat):Int)<=6 by (first|lia|omega))] at h2
      exact absurd rfl h2
   ·refine ⟨_,rfl,?_⟩
    refine iteT ?_
    have e:nameB t=false:=by
     unfold nameB
     rw [decide_eq_true_eq] at h1
     rw [decide_eq_false (show ¬ 1<=t.length by (first|lia|omega)),Bool.false_and,Bool.false_and]
    show Q (.bl false) H
    rw [<-e]
    exact k _ (Same.refl _)
  ·refine ⟨_,rfl,_,"str",_,_,rfl,h1,h2,_,rfl,?_⟩
   exact k
end
section
variable {P:Program} {w:World} {K:PySem.W.Frag} {mg:Str->Option Value} {base:Heap}
theorem ok_law_case (h_int:mg "int"=none) (h_len:mg "len"=none) (h_sorted:mg "sorted"=none) (h_tuple:mg "tuple"=none) {fT fN fW fS:Addr} {fdT fdN fdW fdS:FuncData} (XT:Fn K mg "_law_take" s_law_take ["_law_pen_here","_law_many"] fT fdT) (GT:FnOk P w K mg base CX0 1 fT fdT ["_law_pen_here","_law_many"] spTakeT) (XN:Fn K mg "_law_names" s_law_names ["_law_pen_here","_law_many"] fN fdN) (GN:FnOk P w K mg base CX0 2 fN fdN ["_law_pen_here","_law_many"] spNamesZ) (XW:Fn K mg "_law_ways" s_law_ways ["_law_pen_here","_law_names_here","_law_kind"] fW fdW) (GW:FnOk P w K mg base CX0 2 fW fdW ["_law_pen_here","_law_names_here","_law_kind"] spWaysT) (XS:Fn K mg "_law_some" s_law_some ["_law_pen_here","_law_names_here","_law_most"] fS fdS) (GS:FnOk P w K mg base CX0 2 fS fdS ["_law_pen_here","_law_names_here","_law_most"] spSomeL) {f:Addr} {fd:FuncData} (F:Fun K "_law_case" "_law_case" s_law_case f fd):FnOk P w K mg base CX0 3 f fd ["_law_pen_here","_law_kind"] spCaseZ:=by
 refine F.ok sc_law_case (fun vs H Q E h=>?_) (fun cdv A outer s H vs Q E hr h=>?_)
 ·obtain ⟨p,kd,rfl,_⟩:=h
  rfl
 ·obtain ⟨p,kd,rfl,hP,k⟩:=h
  have nd:=sc_law_case.nd
  have hu:=hu_of hr
  have hu64:=hr.units
  have big:100000 < sizeLine:=by decide
  refine ⟨_,(pss_cons (ps_set (i:=2) nd rfl (Or.inl rfl) (pe_callTy call_int1 (by rfl) h_int PyProof.Rows.boot_int (pa_cons (pe_cmpR op_eq (pe_call GT (hr.mono (by decide)) (by rfl) XT.mg XT.F.kp XT.b .nil pass0 (pa_cons (pv 0) (pa_cons pe_int pa_nil))) pe_int (nomark _)) pa_nil)))
  (pss_cons (ps_set (i:=3) nd rfl (Or.inl rfl) (pe_call GN (hr.mono (by decide)) (by rfl) XN.mg XN.F.kp XN.b .nil pass0 (pa_cons (pv 0) (pa_cons (pe_ix ix_list (pe_lst (pa_cons (pe_op op_add pe_int (pe_call GT (hr.mono (by decide)) (by rfl) XT.mg XT.F.kp XT.b .nil pass0 (pa_cons (pv 0) (pa_cons pe_int pa_nil)))) (pa_cons (pe_op op_add pe_int (pe_call GT (hr.mono (by decide)) (by rfl) XT.mg XT.F.kp XT.b .nil pass0 (pa_cons (pv 0) (pa_cons pe_int pa_nil)))) pa_nil))) (pv 2) (fun _ _=>rfl)) pa_nil))))
  (pss_cons (ps_set (i:=4) nd rfl (Or.inr rfl) (pe_ix ix_list (pe_lst (pa_cons pe_int (pa_cons pe_int (pa_cons pe_int (pa_cons pe_int (pa_cons (pe_op op_pow pe_int pe_int) (pa_cons (pe_op op_pow pe_int pe_int) pa_nil))))))) (pe_call GT (hr.mono (by decide)) (by rfl) XT.mg XT.F.kp XT.b .nil pass0 (pa_cons (pv 0) (pa_cons pe_int pa_nil))) (fun _ _=>rfl)))
  (pss_cons (ps_comp (ix:=5) (N:=["_law_row","_law_much"]) (σ0:=fun σ=>[none,some 4].map fun j=>j.bind fun j=>(σ[j]?).join) nd rfl (Or.inl rfl) rfl (CompOk.caught (by rfl) (by decide +kernel) rfl (by decide +kernel) (by intro y hy; simp only [List.mem_cons,List.not_mem_nil,or_false] at hy; rcases hy with rfl <;> rfl)
   (by intro y hy e; simp only [List.mem_cons,List.not_mem_nil,or_false] at hy; rcases hy with rfl | rfl | rfl <;> first | exact ⟨_,rfl⟩ | cases e)) (fun σ _=>Carry.of [none,some 4] rfl (by
   intro i j x h1 h2
   match i,h1,h2 with
   | 0,_,h2=>cases h2
   | 1,h1,h2=>cases h1; cases h2; exact ⟨rfl,.inl rfl,.inl rfl⟩
   | n + 2,h1,_=>cases h1)) (pi_tup (pe_call GW (hr.mono (by decide)) (by rfl) XW.mg XW.F.kp XW.b .nil pass0 (pa_cons (pv 0) (pa_cons (pv 3) (pa_cons (pv 1) pa_nil)))))
   (fun s2 H C fp=>⟨(pg_name (i:=0) (show (["_law_row","_law_much"]:List Str).Nodup by decide +kernel) rfl (Or.inl rfl)),pts_nil,(pe_op (op_catTK K rfl) (pe_slice (sl_tupK K rfl) (pv 0) po_none (po_some pe_int)) (pe_tup (pa_cons (pe_op op_mul (pe_ix (ix_tupK K rfl) (pv 0) pe_int (fun _ _=>rfl)) (pv 1)) pa_nil)))⟩))
  (pss_cons (ps_set (i:=6) nd rfl (Or.inr rfl) (pe_ix ix_list (pe_lst (pa_cons pe_int (pa_cons pe_int (pa_cons pe_int (pa_cons pe_int pa_nil))))) (pe_call GT (hr.mono (by decide)) (by rfl) XT.mg XT.F.kp XT.b .nil pass0 (pa_cons (pv 0) (pa_cons pe_int pa_nil))) (fun _ _=>rfl)))
  (pss_cons (ps_set (i:=7) nd rfl (Or.inl rfl) (pe_callB (call_sorted_rowsPK K rfl) (by rfl) h_sorted PyProof.Rows.boot_sorted (pa_cons (pe_comp (N:=["_law_place","_law_pen_here","_law_much","_law_dear"]) (σ0:=fun σ=>[none,some 0,some 4,some 6].map fun j=>j.bind fun j=>(σ[j]?).join) rfl (CompOk.caught (by rfl) (by decide +kernel) rfl (by decide +kernel) (by intro y hy; simp only [List.mem_cons,List.not_mem_nil,or_false] at hy; rcases hy with rfl | rfl | rfl <;> rfl)
   (by intro y hy e; simp only [List.mem_cons,List.not_mem_nil,or_false] at hy; rcases hy with rfl | rfl | rfl | rfl | rfl | rfl <;> first | exact ⟨_,rfl⟩ | cases e)) (fun σ _=>Carry.of [none,some 0,some 4,some 6] rfl (by
   intro i j x h1 h2
   match i,h1,h2 with
   | 0,_,h2=>cases h2
   | 1,h1,h2=>cases h1; cases h2; exact ⟨rfl,.inl rfl,.inl rfl⟩
   | 2,h1,h2=>cases h1; cases h2; exact ⟨rfl,.inl rfl,.inl rfl⟩
   | 3,h1,h2=>cases h1; cases h2; exact ⟨rfl,.inl rfl,.inl rfl⟩
   | n + 4,h1,_=>cases h1)) (pi_list (pe_call GS (hr.mono (by decide)) (by rfl) XS.mg XS.F.kp XS.b .nil pass0 (pa_cons (pv 0) (pa_cons (pv 3) (pa_cons (pe_ix ix_list (pe_lst (pa_cons pe_int (pa_cons pe_int pa_nil))) (pv 2) (fun _ _=>rfl)) pa_nil)))))
   (fun s2 H C fp=>⟨(pg_name (i:=0) (show (["_law_place","_law_pen_here","_law_much","_law_dear"]:List Str).Nodup by decide +kernel) rfl (Or.inl rfl)),pts_nil,(pe_tup (pa_cons (pv 0) (pa_cons (pe_op op_mul (pv 2) (pe_call GT (hr.mono (by decide)) (by rfl) XT.mg XT.F.kp XT.b .nil pass0 (pa_cons (pv 1) (pa_cons (pv 3) pa_nil)))) pa_nil)))⟩)) pa_nil)))
  (pss_cons (ps_set (i:=8) nd rfl (Or.inl rfl) (pe_callB (call_sorted_rowsPK K rfl) (by rfl) h_sorted PyProof.Rows.boot_sorted (pa_cons (pe_comp (N:=["_law_place","_law_pen_here"]) (σ0:=fun σ=>[none,some 0].map fun j=>j.bind fun j=>(σ[j]?).join) rfl (CompOk.caught (by rfl) (by decide +kernel) rfl (by decide +kernel) (by intro y hy; simp only [List.mem_cons,List.not_mem_nil,or_false] at hy; rcases hy with rfl <;> rfl)
   (by intro y hy e; simp only [List.mem_cons,List.not_mem_nil,or_false] at hy; rcases hy with rfl | rfl | rfl | rfl <;> first | exact ⟨_,rfl⟩ | cases e)) (fun σ _=>Carry.of [none,some 0] rfl (by
   intro i j x h1 h2
   match i,h1,h2 with
   | 0,_,h2=>cases h2
   | 1,h1,h2=>cases h1; cases h2; exact ⟨rfl,.inl rfl,.inl rfl⟩
   | n + 2,h1,_=>cases h1)) (pi_list (pe_call GS (hr.mono (by decide)) (by rfl) XS.mg XS.F.kp XS.b .nil pass0 (pa_cons (pv 0) (pa_cons (pv 3) (pa_cons (pe_ix ix_list (pe_lst (pa_cons pe_int (pa_cons pe_int pa_nil))) (pv 2) (fun _ _=>rfl)) pa_nil)))))
   (fun s2 H C fp=>⟨(pg_name (i:=0) (show (["_law_place","_law_pen_here"]:List Str).Nodup by decide +kernel) rfl (Or.inl rfl)),pts_nil,(pe_tup (pa_cons (pv 0) (pa_cons (pe_op op_add pe_int (pe_call GT (hr.mono (by decide)) (by rfl) XT.mg XT.F.kp XT.b .nil pass0 (pa_cons (pv 1) (pa_cons pe_int pa_nil)))) pa_nil)))⟩)) pa_nil)))
  (pss_cons (ps_set (i:=9) nd rfl (Or.inl rfl) (pe_ix ix_list (pe_lst (pa_cons pe_non (pa_cons (pe_op op_add pe_int (pe_call GT (hr.mono (by decide)) (by rfl) XT.mg XT.F.kp XT.b .nil pass0 (pa_cons (pv 0) (pa_cons (pe_op op_add (pe_callB call_len_seq (by rfl) h_len PySem.boot_len (pa_cons (pv 7) pa_nil)) pe_int) pa_nil)))) pa_nil))) (pe_call GT (hr.mono (by decide)) (by rfl) XT.mg XT.F.kp XT.b .nil pass0 (pa_cons (pv 0) (pa_cons pe_int pa_nil))) (fun _ _=>rfl)))
  (pss_one (ps_ret (pe_tup (pa_cons (pe_tup (pa_cons (pe_callTy call_tuple_of (by rfl) h_tuple PyProof.Rows.boot_tuple (pa_cons (pe_callB call_sorted_strs (by rfl) h_sorted PyProof.Rows.boot_sorted (pa_cons (pv 3) pa_nil)) pa_nil)) (pa_cons (pe_callTy call_tuple_of (by rfl) h_tuple PyProof.Rows.boot_tuple (pa_cons (pv 5) pa_nil)) pa_nil))) (pa_cons (pe_callTy call_tuple_of (by rfl) h_tuple PyProof.Rows.boot_tuple (pa_cons (pv 7) pa_nil)) (pa_cons (pe_callTy call_tuple_of (by rfl) h_tuple PyProof.Rows.boot_tuple (pa_cons (pv 8) pa_nil)) (pa_cons (pv 9) pa_nil))))))))))))))),?_⟩
  refine ⟨_,rfl,p,12,rfl,hP,by decide,lt600 (by decide),fun d1 a1 b1 c1 d10 d11=>⟨rfl,.inr ⟨_,rfl,?_⟩⟩⟩
  have w01:=wide01 (decide (V.int d1=V.int 11))
  generalize (if decide (V.int d1=V.int 11)=true then (1:Int) else 0)=wv at w01 ⊢
  have P1:PnAt (upd H p (.lst (penL a1 b1 c1))) p:=PnAt.set _ _ _
  have k1:Keep p H (upd H p (.lst (penL a1 b1 c1))):=Keep.upd
  generalize upd H p (.lst (penL a1 b1 c1))=H1 at P1 k1 ⊢
  refine ⟨_,rfl,_,rfl,p,8,rfl,P1,by decide,lt600 (by decide),fun d2 a2 b2 c2 d20 d21=>⟨_,_,rfl,rfl,?_⟩⟩
  refine ⟨_,rfl,p,6,rfl,PnAt.set _ _ _,by decide,lt600 (by decide),fun d3 a3 b3 c3 d30 d31=>⟨_,_,rfl,rfl,(by show 2<=sizeLine; (first|lia|omega)),fun L1 hL1=>?_⟩⟩
  have P2:PnAt (upd (upd (upd H1 p (.lst (penL a2 b2 c2))) p (.lst (penL a3 b3 c3))) L1 (.lst [.int (1 + d2),.int (20 + d3)])) p:=(PnAt.set a3 b3 c3).same (same_upd hL1)
  have k2:Keep p H1 (upd (upd (upd H1 p (.lst (penL a2 b2 c2))) p (.lst (penL a3 b3 c3))) L1 (.lst [.int (1 + d2),.int (20 + d3)])):=(Keep.upd.trans Keep.upd).trans (Keep.of_same (same_upd hL1))
  have hL1':(upd (upd (upd H1 p (.lst (penL a2 b2 c2))) p (.lst (penL a3 b3 c3))) L1 (.lst [.int (1 + d2),.int (20 + d3)])) L1=some (.lst [.int (1 + d2),.int (20 + d3)]):=upd_same
  generalize upd (upd (upd H1 p (.lst (penL a2 b2 c2))) p (.lst (penL a3 b3 c3))) L1 (.lst [.int (1 + d2),.int (20 + d3)])=H2 at P2 k2 hL1' ⊢
  obtain ⟨n,hn,n1,n26⟩:∃ n:Nat,atI [V.int (1 + d2),.int (20 + d3)] wv=some (.int (n:Int))/\1<=n/\n<=26:=by
   rcases w01 with rfl | rfl
   ·exact ⟨(1 + d2).toNat,by rw [Int.toNat_of_nonneg (by (first|lia|omega))]; rfl,by (first|lia|omega),by (first|lia|omega)⟩
   ·exact ⟨(20 + d3).toNat,by rw [Int.toNat_of_nonneg (by (first|lia|omega))]; rfl,by (first|lia|omega),by (first|lia|omega)⟩
  refine ⟨_,rfl,L1,_,_,_,rfl,rfl,SqL.of hL1',hn,p,n,rfl,P2,n26,fun H3 D xs P3 k3 hDn hD xl xnd xnm xnz=>?_⟩
  have nDp:D ≠ p:=P2.ne hDn
  refine ⟨_,_,rfl,rfl,⟨by decide,by decide,by decide⟩,_,_,rfl,rfl,⟨by decide,by decide,by decide⟩,(by show 6<=sizeLine; (first|lia|omega)),fun L2 hL2=>?_⟩
  have s3:=same_upd (o:=.lst [.int 1,.int 1,.int 1,.int 1,.int (10 ^ (9:Int).toNat),.int (10 ^ (20:Int).toNat)]) hL2
  refine ⟨_,rfl,p,6,rfl,P3.same s3,by decide,lt600 (by decide),fun d4 a4 b4 c4 d40 d41=>?_⟩
  obtain ⟨mu,hmu,mu1,mu2⟩:∃ mu:Int,atI [V.int 1,.int 1,.int 1,.int 1,.int (10 ^ (9:Int).toNat),.int (10 ^ (20:Int).toNat)] d4=some (.int mu)/\1<=mu/\mu<=10 ^ 20:=by
   have:d4=0\/d4=1\/d4=2\/d4=3\/d4=4\/d4=5:=by (first|lia|omega)
   rcases this with rfl | rfl | rfl | rfl | rfl | rfl <;> exact ⟨_,rfl,by decide,by decide⟩
  have nL2:L2 ≠ p:=P3.ne hL2
  have k4:Keep p H3 (upd (upd H3 L2 (.lst [.int 1,.int 1,.int 1,.int 1,.int (10 ^ (9:Int).toNat),.int (10 ^ (20:Int).toNat)])) p (.lst (penL a4 b4 c4))):=(Keep.of_same s3).trans Keep.upd
  have P4:PnAt (upd (upd H3 L2 (.lst [.int 1,.int 1,.int 1,.int 1,.int (10 ^ (9:Int).toNat),.int (10 ^ (20:Int).toNat)])) p (.lst (penL a4 b4 c4))) p:=PnAt.set _ _ _
  have hL2':(upd (upd H3 L2 (.lst [.int 1,.int 1,.int 1,.int 1,.int (10 ^ (9:Int).toNat),.int (10 ^ (20:Int).toNat)])) p (.lst (penL a4 b4 c4))) L2=some (.lst [.int 1,.int 1,.int 1,.int 1,.int (10 ^ (9:Int).toNat),.int (10 ^ (20:Int).toNat)]):=by rw [upd_ne nL2,upd_same]
  generalize upd (upd H3 L2 (.lst [.int 1,.int 1,.int 1,.int 1,.int (10 ^ (9:Int).toNat),.int (10 ^ (20:Int).toNat)])) p (.lst (penL a4 b4 c4))=H4 at k4 P4 hL2' ⊢
  refine ⟨L2,_,_,_,rfl,rfl,SqL.of hL2',hmu,?_⟩
  have hD4:=k4 _ _ nDp hD
  refine ⟨_,rfl,_,rfl,_,rfl,p,D,xs,kd,rfl,P4,hD4,nDp,xnd,xnm,by (first|lia|omega),by (first|lia|omega),fun H5 T us ws ws0 P5 k5 hT dus wp wc w9 wl=>?_⟩
  have nTp:T ≠ p:=by intro z; subst z; obtain ⟨_,_,_,z⟩:=P5; rw [z] at hT; cases hT
  have ul:=dus.len
  rw [List.length_map] at ul
  have wlen:ws.length=ws0.length:=by rw [wp.length_eq,List.length_map]
  refine ⟨T,rfl,⟨_,SqT.of hT⟩,?_⟩
  refine read_map over_tup (xs:=us) (fun C i σ H' acc=>∃ v:Option V,σ=[v,some (.int mu)]/\Same H5 H'/\H' C=some (.lst acc)/\Dats H' acc (((ws.take i).map (timesW mu)).map wayD)/\acc.length=i)
   (by (first|lia|omega)) (fun C hC=>⟨_,rfl,same_upd hC,upd_same,.nil,rfl⟩) (fun C i σ H' acc hC ⟨v,_,sa,hCC,_,al⟩=>⟨SqT.of (sa _ _ hT),hCC,al⟩) ?_ ?_
  ·rintro C i σ H' acc x B hC ex ⟨v,rfl,sa,hCC,dd,al⟩ hB
   obtain ⟨u,tt,eu,rfl,htt⟩:=dats_way dus ex
   have htt':=sa _ _ htt
   refine ⟨_,rfl,_,rfl,tt,_,rfl,SqT.of htt',(by show ¬ ((0:Nat)=0/\(2:Nat)=3); decide),fun Z hZ=>?_⟩
   have q1:=same_upd (o:=.tup (cutV [.str u.1,.str u.2.1,.int u.2.2] none (some 2))) hZ
   have hZ':(upd H' Z (.tup (cutV [.str u.1,.str u.2.1,.int u.2.2] none (some 2)))) Z=some (.tup [.str u.1,.str u.2.1]):=upd_same
   generalize upd H' Z (.tup (cutV [.str u.1,.str u.2.1,.int u.2.2] none (some 2)))=H6 at q1 hZ' ⊢
   have ub:1<=u.2.2/\u.2.2<=9:=by
    obtain ⟨u0,hu0,e⟩:=List.mem_map.mp (wp.mem_iff.mp (List.mem_of_getElem? eu))
    have e2:u.2.2=u0.2.2:=by rw [<-e]; rfl
    rw [e2]
    exact ⟨(wc.1 u0 hu0).2.2.2,w9 u0 hu0⟩
   refine ⟨_,rfl,tt,_,_,_,rfl,rfl,SqT.of (q1 _ _ htt'),rfl,_,rfl,_,_,rfl,rfl,.inl ⟨by (first|lia|omega),by (first|lia|omega)⟩,(by show 1<=sizeLine; (first|lia|omega)),fun Y hY=>?_⟩
   have q2:=same_upd (o:=.tup [.int (u.2.2 * mu)]) hY
   have hY':(upd H6 Y (.tup [.int (u.2.2 * mu)])) Y=some (.tup [.int (u.2.2 * mu)]):=upd_same
   generalize upd H6 Y (.tup [.int (u.2.2 * mu)])=H7 at q2 hY' ⊢
   refine ⟨Z,Y,_,_,rfl,rfl,SqT.of (q2 _ _ hZ'),SqT.of hY',by simp,(by show 2 + 1<=sizeLine; (first|lia|omega)),fun z=>absurd z (by simp),fun _ X hX=>?_⟩
   have q3:=same_upd (o:=.tup ([.str u.1,.str u.2.1] ++ [.int (u.2.2 * mu)])) hX
   have hX':(upd H7 X (.tup ([.str u.1,.str u.2.1] ++ [.int (u.2.2 * mu)]))) X=some (.tup [.str u.1,.str u.2.1,.int (u.2.2 * mu)]):=upd_same
   generalize upd H7 X (.tup ([.str u.1,.str u.2.1] ++ [.int (u.2.2 * mu)]))=H8 at q3 hX' ⊢
   have q:=q1.trans (q2.trans q3)
   have c8:=q _ _ hCC
   have nX:X ≠ C:=by intro z; subst z; rw [c8] at hX'; cases hX'
   refine hB _ _ _ c8 ⟨_,rfl,fun b o e=>by rw [upd_ne (ne_of_none e hC)]; exact q _ _ (sa _ _ e),upd_same,?_,by rw [List.length_append,al]; rfl⟩
   rw [List.take_add_one,eu,List.map_append,List.map_append]
   refine dats_app (way_dats dd fun b ys e=>?_) (.cons (.tup (by rw [upd_ne nX]; exact hX') (.cons (.str _) (.cons (.str _) (.cons (.int _) .nil)))) .nil)
   rw [upd_ne (by intro z; subst z; rw [hCC] at e; cases e)]
   exact q _ _ e
  rintro W σ H6 acc hW ⟨v,rfl,s56,hWW,dW,wal⟩
  rw [ul,List.take_length] at dW
  have nWp:W ≠ p:=P5.ne hW
  have P6:=P5.same s56
  refine ⟨(by show 4<=sizeLine; (first|lia|omega)),fun L3 hL3=>?_⟩
  have s6:=same_upd (o:=.lst [.int 1,.int 4,.int 12,.int 40]) hL3
  refine ⟨_,rfl,p,4,rfl,P6.same s6,by decide,lt600 (by decide),fun d5 a5 b5 c5 d50 d51=>?_⟩
  obtain ⟨de,hde,de1,de2⟩:∃ de:Int,atI [V.int 1,.int 4,.int 12,.int 40] d5=some (.int de)/\1<=de/\de<=40:=by
   have:d5=0\/d5=1\/d5=2\/d5=3:=by (first|lia|omega)
   rcases this with rfl | rfl | rfl | rfl <;> exact ⟨_,rfl,by decide,by decide⟩
  have nL3:L3 ≠ p:=P6.ne hL3
  have k7:Keep p H6 (upd (upd H6 L3 (.lst [.int 1,.int 4,.int 12,.int 40])) p (.lst (penL a5 b5 c5))):=(Keep.of_same s6).trans Keep.upd
  have P7:PnAt (upd (upd H6 L3 (.lst [.int 1,.int 4,.int 12,.int 40])) p (.lst (penL a5 b5 c5))) p:=PnAt.set _ _ _
  have hL3':(upd (upd H6 L3 (.lst [.int 1,.int 4,.int 12,.int 40])) p (.lst (penL a5 b5 c5))) L3=some (.lst [.int 1,.int 4,.int 12,.int 40]):=by rw [upd_ne nL3,upd_same]
  generalize upd (upd H6 L3 (.lst [.int 1,.int 4,.int 12,.int 40])) p (.lst (penL a5 b5 c5))=H7 at k7 P7 hL3' ⊢
  refine ⟨L3,_,_,_,rfl,rfl,SqL.of hL3',hde,?_⟩
  have k47:Keep p H4 H7:=k5.trans ((Keep.of_same s56).trans k7)
  have hDxa:=k47 _ _ nDp hD4
  obtain ⟨moa,hmoa,moa1,moa2⟩:∃ mo:Int,atI [V.int 6,.int 3] wv=some (.int mo)/\1<=mo/\mo<=10:=by
   rcases w01 with rfl | rfl
   ·exact ⟨_,rfl,by decide,by decide⟩
   ·exact ⟨_,rfl,by decide,by decide⟩
  refine ⟨_,rfl,_,rfl,(by show 2<=sizeLine; (first|lia|omega)),fun La hLa=>?_⟩
  have sLa:=same_upd (o:=.lst [V.int 6,.int 3]) hLa
  have hLa':(upd H7 La (.lst [V.int 6,.int 3])) La=some (.lst [V.int 6,.int 3]):=upd_same
  have PLa:=P7.same sLa
  have hDa:=sLa _ _ hDxa
  generalize upd H7 La (.lst [V.int 6,.int 3])=HLa at sLa hLa' PLa hDa
  refine ⟨_,rfl,La,_,_,_,rfl,rfl,SqL.of hLa',hmoa,p,D,xs,moa,rfl,PLa,hDa,nDp,by (first|lia|omega),by (first|lia|omega),moa1,by (first|lia|omega),fun Ha Da ysa zsa Pa ka fa da pma l1a l2a=>?_⟩
  have nDa:Da ≠ p:=PLa.ne fa
  refine ⟨Da,rfl,⟨_,SqL.of da⟩,?_⟩
  have ysuba:∀ y ∈ ysa,y ∈ xs:=fun y hy=>pma.mem_iff.mp (List.mem_append_left _ hy)
  have ynda:ysa.Nodup:=(List.nodup_append.mp (pma.nodup_iff.mpr xnd)).1
  refine read_map over_list (xs:=ysa.map V.str) (fun D i σ H' acc=>∃ (v:Option V) (rs:List Row),σ=[v,some (.ref p),some (.int mu),some (.int de)]/\PnAt H' p/\(∀ b o,b ≠ p->Ha b=some o->H' b=some o)/\H' D=some (.lst acc)/\Dats H' acc (rs.map rowD)/\acc.length=i/\rs.map (·.1)=ysa.take i/\∀ r ∈ rs,0<=r.2/\r.2 < 10 ^ 30)
   (by rw [List.length_map]; (first|lia|omega)) (fun D hD=>⟨_,[],rfl,Pa.other (Pa.ne hD),fun b o hb e=>same_upd hD _ _ e,upd_same,.nil,rfl,rfl,fun r hr=>(nomatch hr)⟩)
   (fun D i σ H' acc hD ⟨v,rs,_,_,kp,hDD,_,al,_⟩=>⟨SqL.of (kp _ _ nDa da),hDD,al⟩) ?_ ?_
  ·rintro D i σ H' acc x B hD ex ⟨v,rs,rfl,P2,k2,d2,dd,al,rt,rl⟩ hB
   obtain ⟨y,ey,rfl⟩:∃ y,ysa[i]? = some y/\x=.str y:=by
    rw [List.getElem?_map] at ex
    cases z:ysa[i]? with
    | none=>rw [z] at ex; cases ex
    | some y=>rw [z] at ex; exact ⟨y,rfl,(Option.some.inj ex).symm⟩
   have nD:D ≠ p:=Pa.ne hD
   refine ⟨_,rfl,_,rfl,_,rfl,_,rfl,p,de,rfl,P2,by (first|lia|omega),lt600 (by (first|lia|omega)),fun l' a b c la lb=>⟨_,_,rfl,rfl,.inr ⟨by (first|lia|omega),by (first|lia|omega)⟩,?_⟩⟩
   have hl:0<=mu * l'/\mu * l' < 10 ^ 30:=by
    have h1:0<=mu * l':=Int.mul_nonneg (by (first|lia|omega)) la
    have h2:mu * l'<=10 ^ 20 * 40:=Int.mul_le_mul mu2 (by (first|lia|omega)) la (by decide)
    have h3:(10:Int) ^ 20 * 40 < 10 ^ 30:=by decide
    exact ⟨h1,by (first|lia|omega)⟩
   refine ⟨(by show 2<=sizeLine; (first|lia|omega)),fun T hT=>?_⟩
   have d3:(upd (upd H' p (.lst (penL a b c))) T (.tup [.str y,.int (mu * l')])) D=some (.lst acc):=same_upd hT _ _ (by rw [upd_ne nD]; exact d2)
   have nT:T ≠ D:=by intro z; subst z; rw [upd_ne nD,d2] at hT; cases hT
   have nTp:T ≠ p:=(PnAt.set (H:=H') (p:=p) a b c).ne hT
   refine hB _ _ _ d3 ⟨_,rs ++ [(y,mu * l')],rfl,((PnAt.set a b c).other nTp).other nD,fun b' o hb e=>?_,upd_same,?_,by rw [List.length_append,al]; rfl,?_,fun r hr=>?_⟩
   ·rw [upd_ne (ne_of_none e hD)]
    exact same_upd hT _ _ (by rw [upd_ne hb]; exact k2 b' o hb e)
   ·rw [List.map_append]
    refine dats_app (row_dats dd fun b' ys e=>?_) (.cons (rowD_of (u:=(y,mu * l')) (by rw [upd_ne nT]; exact upd_same)) .nil)
    rw [upd_ne (by intro z; subst z; rw [d2] at e; cases e)]
    exact same_upd hT _ _ (by rw [upd_ne (by intro z; subst z; obtain ⟨_,_,_,z⟩:=P2; rw [z] at e; cases e)]; exact e)
   ·rw [List.map_append,rt,List.take_add_one,ey]
    rfl
   ·rcases List.mem_append.mp hr with hr | hr
    ·exact rl r hr
    ·rw [List.mem_singleton] at hr
     subst hr
     exact hl
  rintro Sa σa HSa usa hSa ⟨va,rsa,rfl,PSa,kSa,dSa,dda,ala,rta,rla⟩
  have rlena:rsa.length=ysa.length:=by
   have:=congrArg List.length rta
   rw [List.length_map,List.length_take,List.length_map,Nat.min_self] at this
   exact this
  rw [List.length_map,List.take_length] at rta
  have nSa:Sa ≠ p:=Pa.ne hSa
  have qa:Keep p HLa HSa:=fun b o hb e=>kSa b o hb (ka b o hb e)
  refine ⟨Sa,usa,rsa,rfl,SqL.of dSa,dda,fun la wsa rta' hla ddda pmsa=>?_⟩
  have sa:=same_upd (o:=.lst wsa) hla
  have hLLa:(upd HSa la (.lst wsa)) la=some (.lst wsa):=upd_same
  have PTa:=PSa.same sa
  have dTa:Dats (upd HSa la (.lst wsa)) wsa (rta'.map rowD):=row_dats ddda (fun b ys z=>sa _ _ z)
  generalize upd HSa la (.lst wsa)=HTa at sa hLLa PTa dTa
  have nla:la ≠ p:=PSa.ne hla
  have qTa:Keep p HLa HTa:=qa.trans (Keep.of_same sa)
  have oka:RowsOk xs 0 rsa:=⟨fun r hr=>ysuba _ (by rw [<-rta]; exact List.mem_map_of_mem hr),by rw [rta]; exact ynda,rla,by (first|lia|omega)⟩
  have hDxb:HTa D=some (.lst (xs.map V.str)):=qTa _ _ nDp hDa
  obtain ⟨mob,hmob,mob1,mob2⟩:∃ mo:Int,atI [V.int 8,.int 25] wv=some (.int mo)/\1<=mo/\mo<=30:=by
   rcases w01 with rfl | rfl
   ·exact ⟨_,rfl,by decide,by decide⟩
   ·exact ⟨_,rfl,by decide,by decide⟩
  refine ⟨_,rfl,_,rfl,(by show 2<=sizeLine; (first|lia|omega)),fun Lb hLb=>?_⟩
  have sLb:=same_upd (o:=.lst [V.int 8,.int 25]) hLb
  have hLb':(upd HTa Lb (.lst [V.int 8,.int 25])) Lb=some (.lst [V.int 8,.int 25]):=upd_same
  have PLb:=PTa.same sLb
  have hDb:=sLb _ _ hDxb
  generalize upd HTa Lb (.lst [V.int 8,.int 25])=HLb at sLb hLb' PLb hDb
  refine ⟨_,rfl,Lb,_,_,_,rfl,rfl,SqL.of hLb',hmob,p,D,xs,mob,rfl,PLb,hDb,nDp,by (first|lia|omega),by (first|lia|omega),mob1,by (first|lia|omega),fun Hb Db ysb zsb Pb kb fb db pmb l1b l2b=>?_⟩
  have nDb:Db ≠ p:=PLb.ne fb
  refine ⟨Db,rfl,⟨_,SqL.of db⟩,?_⟩
  have ysubb:∀ y ∈ ysb,y ∈ xs:=fun y hy=>pmb.mem_iff.mp (List.mem_append_left _ hy)
  have yndb:ysb.Nodup:=(List.nodup_append.mp (pmb.nodup_iff.mpr xnd)).1
  refine read_map over_list (xs:=ysb.map V.str) (fun D i σ H' acc=>∃ (v:Option V) (rs:List Row),σ=[v,some (.ref p)]/\PnAt H' p/\(∀ b o,b ≠ p->Hb b=some o->H' b=some o)/\H' D=some (.lst acc)/\Dats H' acc (rs.map rowD)/\acc.length=i/\rs.map (·.1)=ysb.take i/\∀ r ∈ rs,1<=r.2/\r.2<=4)
   (by rw [List.length_map]; (first|lia|omega)) (fun D hD=>⟨_,[],rfl,Pb.other (Pb.ne hD),fun b o hb e=>same_upd hD _ _ e,upd_same,.nil,rfl,rfl,fun r hr=>(nomatch hr)⟩)
   (fun D i σ H' acc hD ⟨v,rs,_,_,kp,hDD,_,al,_⟩=>⟨SqL.of (kp _ _ nDb db),hDD,al⟩) ?_ ?_
  ·rintro D i σ H' acc x B hD ex ⟨v,rs,rfl,P2,k2,d2,dd,al,rt,rl⟩ hB
   obtain ⟨y,ey,rfl⟩:∃ y,ysb[i]? = some y/\x=.str y:=by
    rw [List.getElem?_map] at ex
    cases z:ysb[i]? with
    | none=>rw [z] at ex; cases ex
    | some y=>rw [z] at ex; exact ⟨y,rfl,(Option.some.inj ex).symm⟩
   have nD:D ≠ p:=Pb.ne hD
   refine ⟨_,rfl,_,rfl,p,4,rfl,P2,by decide,lt600 (by decide),fun l' a b c la lb=>⟨_,_,rfl,rfl,?_⟩⟩
   have hl:1<=1 + l'/\1 + l'<=4:=⟨by (first|lia|omega),by (first|lia|omega)⟩
   refine ⟨(by show 2<=sizeLine; (first|lia|omega)),fun T hT=>?_⟩
   have d3:(upd (upd H' p (.lst (penL a b c))) T (.tup [.str y,.int (1 + l')])) D=some (.lst acc):=same_upd hT _ _ (by rw [upd_ne nD]; exact d2)
   have nT:T ≠ D:=by intro z; subst z; rw [upd_ne nD,d2] at hT; cases hT
   have nTp:T ≠ p:=(PnAt.set (H:=H') (p:=p) a b c).ne hT
   refine hB _ _ _ d3 ⟨_,rs ++ [(y,1 + l')],rfl,((PnAt.set a b c).other nTp).other nD,fun b' o hb e=>?_,upd_same,?_,by rw [List.length_append,al]; rfl,?_,fun r hr=>?_⟩
   ·rw [upd_ne (ne_of_none e hD)]
    exact same_upd hT _ _ (by rw [upd_ne hb]; exact k2 b' o hb e)
   ·rw [List.map_append]
    refine dats_app (row_dats dd fun b' ys e=>?_) (.cons (rowD_of (u:=(y,1 + l')) (by rw [upd_ne nT]; exact upd_same)) .nil)
    rw [upd_ne (by intro z; subst z; rw [d2] at e; cases e)]
    exact same_upd hT _ _ (by rw [upd_ne (by intro z; subst z; obtain ⟨_,_,_,z⟩:=P2; rw [z] at e; cases e)]; exact e)
   ·rw [List.map_append,rt,List.take_add_one,ey]
    rfl
   ·rcases List.mem_append.mp hr with hr | hr
    ·exact rl r hr
    ·rw [List.mem_singleton] at hr
     subst hr
     exact hl
  rintro Sb σb HSb usb hSb ⟨vb,rsb,rfl,PSb,kSb,dSb,ddb,alb,rtb,rlb⟩
  have rlenb:rsb.length=ysb.length:=by
   have:=congrArg List.length rtb
   rw [List.length_map,List.length_take,List.length_map,Nat.min_self] at this
   exact this
  rw [List.length_map,List.take_length] at rtb
  have nSb:Sb ≠ p:=Pb.ne hSb
  have qb:Keep p HLb HSb:=fun b o hb e=>kSb b o hb (kb b o hb e)
  refine ⟨Sb,usb,rsb,rfl,SqL.of dSb,ddb,fun lb wsb rtb' hlb dddb pmsb=>?_⟩
  have sb:=same_upd (o:=.lst wsb) hlb
  have hLLb:(upd HSb lb (.lst wsb)) lb=some (.lst wsb):=upd_same
  have PTb:=PSb.same sb
  have dTb:Dats (upd HSb lb (.lst wsb)) wsb (rtb'.map rowD):=row_dats dddb (fun b ys z=>sb _ _ z)
  generalize upd HSb lb (.lst wsb)=HTb at sb hLLb PTb dTb
  have nlb:lb ≠ p:=PSb.ne hlb
  have qTb:Keep p HLb HTb:=qb.trans (Keep.of_same sb)
  have ten:(4:Int) < 10 ^ 30:=by decide
  have okb:RowsOk xs 1 rsb:=⟨fun r hr=>ysubb _ (by rw [<-rtb]; exact List.mem_map_of_mem hr),by rw [rtb]; exact yndb,fun r hr=>⟨(rlb r hr).1,by have:=(rlb r hr).2; (first|lia|omega)⟩,by (first|lia|omega)⟩
  have ha1:=rlena
  have hla:∀ b o,b ≠ p->HTa b=some o->HTb b=some o:=fun b o hb e=>qTb b o hb (sLb _ _ e)
  have wsl:wsa.length=rsa.length:=by rw [dTa.len,List.length_map,pmsa.length_eq]
  refine ⟨_,rfl,_,rfl,la,_,rfl,.inl (SqL.of (hla _ _ nla hLLa)),_,_,rfl,rfl,p,(wsa.length:Int) + 1,rfl,PTb,by (first|lia|omega),lt600 (by (first|lia|omega)),fun d6 a6 b6 c6 d60 d61=>⟨_,_,rfl,rfl,(by show 2<=sizeLine; (first|lia|omega)),fun L4 hL4=>?_⟩⟩
  have P8:PnAt (upd (upd HTb p (.lst (penL a6 b6 c6))) L4 (.lst [.non,.int (1 + d6)])) p:=(PnAt.set a6 b6 c6).same (same_upd hL4)
  have k8:Keep p HTb (upd (upd HTb p (.lst (penL a6 b6 c6))) L4 (.lst [.non,.int (1 + d6)])):=Keep.upd.trans (Keep.of_same (same_upd hL4))
  have hL4':(upd (upd HTb p (.lst (penL a6 b6 c6))) L4 (.lst [.non,.int (1 + d6)])) L4=some (.lst [.non,.int (1 + d6)]):=upd_same
  generalize upd (upd HTb p (.lst (penL a6 b6 c6))) L4 (.lst [.non,.int (1 + d6)])=H8 at P8 k8 hL4' ⊢
  have nL4:L4 ≠ p:=by intro z; subst z; obtain ⟨_,_,_,z⟩:=P8; rw [z] at hL4'; cases hL4'
  refine ⟨_,rfl,p,2,rfl,P8,by decide,lt600 (by decide),fun d7 a7 b7 c7 d70 d71=>?_⟩
  obtain ⟨x,dx,hx,lim⟩:∃ (x:V) (dx:PyData),atI [V.non,.int (1 + d6)] d7=some x/\Lim x dx:=by
   have:d7=0\/d7=1:=by (first|lia|omega)
   have ten2:(100:Int) < 10 ^ 30:=by decide
   rcases this with rfl | rfl
   ·exact ⟨_,_,rfl,.inl ⟨rfl,rfl⟩⟩
   ·exact ⟨_,_,rfl,.inr ⟨_,rfl,rfl,by (first|lia|omega),by (first|lia|omega)⟩⟩
  have k9:Keep p HTb (upd H8 p (.lst (penL a7 b7 c7))):=k8.trans Keep.upd
  have P9:PnAt (upd H8 p (.lst (penL a7 b7 c7))) p:=PnAt.set _ _ _
  have hL9:(upd H8 p (.lst (penL a7 b7 c7))) L4=some (.lst [.non,.int (1 + d6)]):=by rw [upd_ne nL4]; exact hL4'
  generalize upd H8 p (.lst (penL a7 b7 c7))=H9 at k9 P9 hL9 ⊢
  refine ⟨L4,_,_,x,rfl,rfl,SqL.of hL9,hx,?_⟩
  have ka9:Keep p HTa H9:=fun b o hb e=>k9 _ _ hb (hla _ _ hb e)
  have k69:Keep p H6 H9:=k7.trans ((Keep.of_same sLa).trans (qTa.trans ka9))
  have hD9:H9 D=some (.lst (xs.map V.str)):=ka9 _ _ nDp hDxb
  have hW9:H9 W=some (.lst acc):=k69 _ _ nWp hWW
  have dW9:Dats H9 acc ((ws.map (timesW mu)).map wayD):=way_dats dW (tupK P6 k69)
  have hA9:H9 la=some (.lst wsa):=ka9 _ _ nla hLLa
  have dA9:Dats H9 wsa (rta'.map rowD):=row_dats dTa (tupK PTa ka9)
  have hB9:H9 lb=some (.lst wsb):=k9 _ _ nlb hLLb
  have dB9:Dats H9 wsb (rtb'.map rowD):=row_dats dTb (tupK PTb k9)
  have kp9:Keep p H H9:=k1.trans (k2.trans (k3.trans (k4.trans (k5.trans ((Keep.of_same s56).trans k69)))))
  clear hla ka9 k69 k9
  refine ⟨_,rfl,D,xs,rfl,SqL.of hD9,by (first|lia|omega),fun l1 ps hl1 pp so=>⟨l1,_,rfl,.inl ⟨SqL.of upd_same,fun T1 hT1=>?_⟩⟩⟩
  have r1:=(same_upd (o:=.lst (ps.map V.str)) hl1).trans (same_upd (o:=.tup (ps.map V.str)) hT1)
  have hT1':(upd (upd H9 l1 (.lst (ps.map V.str))) T1 (.tup (ps.map V.str))) T1=some (.tup (ps.map V.str)):=upd_same
  generalize upd (upd H9 l1 (.lst (ps.map V.str))) T1 (.tup (ps.map V.str))=H10 at r1 hT1' ⊢
  refine ⟨_,rfl,W,_,rfl,.inl ⟨SqL.of (r1 _ _ hW9),fun T2 hT2=>?_⟩⟩
  have r2:=same_upd (o:=.tup acc) hT2
  have hT2':(upd H10 T2 (.tup acc)) T2=some (.tup acc):=upd_same
  generalize upd H10 T2 (.tup acc)=H11 at r2 hT2' ⊢
  refine ⟨(by show 2<=sizeLine; (first|lia|omega)),fun M hM=>?_⟩
  have r3:=same_upd (o:=.tup [.ref T1,.ref T2]) hM
  have hM':(upd H11 M (.tup [.ref T1,.ref T2])) M=some (.tup [.ref T1,.ref T2]):=upd_same
  generalize upd H11 M (.tup [.ref T1,.ref T2])=H12 at r3 hM' ⊢
  have r13:=r1.trans (r2.trans r3)
  refine ⟨_,rfl,la,_,rfl,.inl ⟨SqL.of (r13 _ _ hA9),fun T3 hT3=>?_⟩⟩
  have r4:=same_upd (o:=.tup wsa) hT3
  have hT3':(upd H12 T3 (.tup wsa)) T3=some (.tup wsa):=upd_same
  generalize upd H12 T3 (.tup wsa)=H13 at r4 hT3' ⊢
  refine ⟨_,rfl,lb,_,rfl,.inl ⟨SqL.of (r4 _ _ (r13 _ _ hB9)),fun T4 hT4=>?_⟩⟩
  have r5:=same_upd (o:=.tup wsb) hT4
  have hT4':(upd H13 T4 (.tup wsb)) T4=some (.tup wsb):=upd_same
  generalize upd H13 T4 (.tup wsb)=H14 at r5 hT4' ⊢
  refine ⟨_,rfl,(by show 4<=sizeLine; (first|lia|omega)),fun U hU=>?_⟩
  have r6:=same_upd (o:=.tup [.ref M,.ref T3,.ref T4,x]) hU
  have hU':(upd H14 U (.tup [.ref M,.ref T3,.ref T4,x])) U=some (.tup [.ref M,.ref T3,.ref T4,x]):=upd_same
  generalize upd H14 U (.tup [.ref M,.ref T3,.ref T4,x])=H15 at r6 hU' ⊢
  have r36:=r4.trans (r5.trans r6)
  have r16:=r13.trans r36
  have pl:=pp.length_eq
  have mw:MapW H15 M ps.length ps (ws.map (timesW mu)):=map_times mu1 mu2 (r36 _ _ hM') (r36 _ _ (r3 _ _ (r2 _ _ hT1'))) (r36 _ _ (r3 _ _ hT2')) (way_dats dW9 fun b ys z=>r16 _ _ z) pp so xnd xnm wp wc w9 wl
  refine k H15 U M ps.length ps _ rta' rtb' x dx (P9.same r16) (kp9.trans (Keep.of_same r16)) ⟨⟨T3,T4,wsa,wsb,hU',r6 _ _ (r5 _ _ hT3'),row_dats dA9 (fun b ys z=>r16 _ _ z),r6 _ _ hT4',row_dats dB9 (fun b ys z=>r16 _ _ z)⟩,mw,by (first|lia|omega),by (first|lia|omega),(oka.perm pmsa).names pp,(okb.perm pmsb).names pp,?_,?_,lim⟩ (fun r hr=>(rlb r (pmsb.mem_iff.mp hr)).2) fun y hy=>xnz y (pp.mem_iff.mp hy)
  ·rw [pmsa.length_eq]; (first|lia|omega)
  ·rw [pmsb.length_eq]; (first|lia|omega)
end
section
variable {P:Program} {w:World} {K:PySem.W.Frag} {mg:Str->Option Value} {base:Heap}
theorem ok_law_fars (h_int:mg "int"=none) {f:Addr} {fd:FuncData} (F:Fun K "_law_fars" "_law_fars" s_law_fars f fd):FnOk P w K mg base CX0 1 f fd ["_law_case_here"] spFarsL:=by
 refine F.ok sc_law_fars (fun vs H Q E h=>?_) (fun cdv A outer s H vs Q E hr h=>?_)
 ·obtain ⟨cc,q,n,xs,ws,rs1,rs2,x,d,rfl,_⟩:=h
  rfl
 ·obtain ⟨cc,q,n,xs,ws,rs1,rs2,x,d,rfl,cw,k⟩:=h
  have hu:=hu_of hr
  have nd:=sc_law_fars.nd
  have big:16000000 < sizeLine:=by decide
  have two:2<=sizeLine:=by decide
  have mw:=cw.map
  have nn1:=cw.n1
  have nn30:=cw.n30
  obtain ⟨c1,c2,us1,us2,hcc,_⟩:=cw.ex
  obtain ⟨r0,okw,pos,uni⟩:=mw.web nn1 nn30
  obtain ⟨D,e,us,hq,hD,hE,hW⟩:=mw.at'.ex
  have ends:=okw.ends
  have x30:xs.length<=30:=okw.l30
  have w64:=okw.l64
  have wof:∀ u ∈ ws,u.1 ∈ xs/\u.2.1 ∈ xs/\u.1 ≠ u.2.1/\1<=u.2.2:=fun u hu=>⟨(ends u hu).1,(ends u hu).2,mw.apart hu,pos u hu⟩
  have hwl:us.length=ws.length:=by rw [dats_len hW,List.length_map]
  refine ⟨_,(pss_cons (ps_asg (pe_ix (ix_tupK K rfl) (pv 0) pe_int (fun _ _=>rfl)) (pg_tupK K rfl rfl (pgs_cons (pg_name (i:=1) nd rfl (Or.inl rfl)) (pgs_cons (pg_name (i:=2) nd rfl (Or.inl rfl)) pgs_nil))))
  (pss_cons (ps_set (i:=3) nd rfl (Or.inl rfl) pe_dnewT)
  (pss_cons (ps_for PassesOwn.never rfl (pi_tupK K rfl (pv 1)) (pg_name (i:=4) nd rfl (Or.inl rfl))
  (pss_one (ps_for PassesOwn.never rfl (pi_tupK K rfl (pv 1)) (pg_name (i:=5) nd rfl (Or.inl rfl))
  (pss_one (ps_dput hu (pv 3) (pe_tup (pa_cons (pv 4) (pa_cons (pv 5) pa_nil))) (pe_ix (ix_listK K rfl) (pe_lst (pa_cons pe_non (pa_cons pe_int pa_nil))) (pe_callTy call_int1 (by rfl) h_int PyProof.Rows.boot_int (pa_cons (pe_cmpR op_eq (pv 4) (pv 5) (nomark _)) pa_nil)) (fun _ _=>rfl)) rfl)))))
  (pss_cons (ps_for PassesOwn.never rfl (pi_tupK K rfl (pv 2)) (pg_tupK K rfl rfl (pgs_cons (pg_name (i:=4) nd rfl (Or.inl rfl)) (pgs_cons (pg_name (i:=5) nd rfl (Or.inl rfl)) (pgs_cons (pg_name (i:=6) nd rfl (Or.inl rfl)) pgs_nil))))
  (pss_cons (ps_dput hu (pv 3) (pe_tup (pa_cons (pv 4) (pa_cons (pv 5) pa_nil))) (pv 6) rfl)
  (pss_one (ps_dput hu (pv 3) (pe_tup (pa_cons (pv 5) (pa_cons (pv 4) pa_nil))) (pv 6) rfl))))
  (pss_cons (ps_for PassesOwn.never rfl (pi_tupK K rfl (pv 1)) (pg_name (i:=7) nd rfl (Or.inl rfl))
  (pss_one (ps_for PassesOwn.never rfl (pi_tupK K rfl (pv 1)) (pg_name (i:=4) nd rfl (Or.inl rfl))
  (pss_one (ps_for PassesOwn.never rfl (pi_tupK K rfl (pv 1)) (pg_name (i:=5) nd rfl (Or.inl rfl))
  (pss_one (ps_if (pw_and (pt_cmp (pc_notN (pe_dget hu (pv 3) (pe_tup (pa_cons (pv 4) (pa_cons (pv 7) pa_nil))) (fun _ _=>rfl)))) (pw_and1 (pt_cmp (pc_notN (pe_dget hu (pv 3) (pe_tup (pa_cons (pv 7) (pa_cons (pv 5) pa_nil))) (fun _ _=>rfl)))))).pt
  (pss_cons (ps_set (i:=8) nd rfl (Or.inl rfl) (pe_op op_add (pe_dget hu (pv 3) (pe_tup (pa_cons (pv 4) (pa_cons (pv 7) pa_nil))) (fun _ _=>rfl)) (pe_dget hu (pv 3) (pe_tup (pa_cons (pv 7) (pa_cons (pv 5) pa_nil))) (fun _ _=>rfl))))
  (pss_one (ps_if (pw_or (pt_cmp (pc_isN (pe_dget hu (pv 3) (pe_tup (pa_cons (pv 4) (pa_cons (pv 5) pa_nil))) (fun _ _=>rfl)))) (pw_or1 (pt_cmpR op_lt (pv 8) (pe_dget hu (pv 3) (pe_tup (pa_cons (pv 4) (pa_cons (pv 5) pa_nil))) (fun _ _=>rfl)) (nomark _)))).pt
  (pss_one (ps_dput hu (pv 3) (pe_tup (pa_cons (pv 4) (pa_cons (pv 5) pa_nil))) (pv 8) rfl))
  pss_nil)))
  pss_nil)))))))
  (pss_one (ps_ret (pv 3)))))))),?_⟩
  refine ⟨_,rfl,cc,_,_,_,rfl,rfl,SqT.of hcc,rfl,q,_,rfl,SqT.of hq,rfl,_,_,rfl,_,_,rfl,rfl,?_⟩
  intro A hA
  have V0:MV (upd H A (.dT [])) A (fun _ _=>none) 0:=⟨[],upd_same,Nat.le_refl _,fun x y=>rfl⟩
  have nAD:∀ {b:Addr} {u:HO},H b=some u->b ≠ A:=fun z=>ne_of_none z hA
  have strAt:∀ {i:Nat} {v:V},(xs.map V.str)[i]? = some v->∃ x,xs[i]? = some x/\v=.str x/\i < xs.length:=fun {i v} h=>by
   rw [List.getElem?_map] at h
   cases ex:xs[i]? with
   | none=>rw [ex] at h; cases h
   | some x=>rw [ex] at h; exact ⟨x,rfl,(Option.some.inj h).symm,(List.getElem?_eq_some_iff.mp ex).1⟩
  refine ⟨_,rfl,D,rfl,⟨_,SqT.of (same_upd hA _ _ hD)⟩,for_tupN (xs:=xs.map V.str) (fun i σ H2=>(∃ v4 v5 v6 v7 v8,σ=[some (.ref cc),some (.ref D),some (.ref e),some (.ref A),v4,v5,v6,v7,v8])/\Same H H2/\∃ G,MV H2 A G (i * 30)/\(∀ x y v,G x y=some v->x ∈ xs/\y ∈ xs/\v=oI (if x=y then some 0 else none))/\∀ (a:Nat) x,a < i->xs[a]? = some x->∀ y ∈ xs,∃ v,G x y=some v)
   ⟨⟨_,_,_,_,_,rfl⟩,same_upd hA,_,V0.up (Nat.zero_le _),fun x y v h=>(by cases h),fun j x hj=>absurd hj (Nat.not_lt_zero _)⟩ (fun i σ H2 _ hP=>SqT.of (hP.2.1 _ _ hD)) (fun i v σ H2 hv hP rt bk N hNi=>?_) (fun σ H2 hP=>?_)⟩
  ·obtain ⟨⟨v4,v5,v6,v7,v8,rfl⟩,s2,G0,hG0,m1,m2⟩:=hP
   obtain ⟨one,eone,rfl,ilt⟩:=strAt hv
   refine ⟨_,rfl,D,rfl,⟨_,SqT.of (s2 _ _ hD)⟩,for_tupN (xs:=xs.map V.str) (fun j σ H3=>(∃ v5 v6 v7 v8,σ=[some (.ref cc),some (.ref D),some (.ref e),some (.ref A),some (.str one),v5,v6,v7,v8])/\Same H H3/\∃ G,MV H3 A G (i * 30 + j)/\(∀ x y v,G x y=some v->x ∈ xs/\y ∈ xs/\v=oI (if x=y then some 0 else none))/\(∀ (a:Nat) x,a < i->xs[a]? = some x->∀ y ∈ xs,∃ v,G x y=some v)/\∀ (b:Nat) y,b < j->xs[b]? = some y->∃ v,G one y=some v)
    ⟨⟨_,_,_,_,rfl⟩,s2,G0,hG0.up (by (first|lia|omega)),m1,m2,fun b y hb=>absurd hb (Nat.not_lt_zero _)⟩ (fun i σ H3 _ hP=>SqT.of (hP.2.1 _ _ hD)) (fun j v σ H3 hv hP rt bk N hNj=>?_) (fun σ H3 hP=>?_)⟩
   ·obtain ⟨⟨v5,v6,v7,v8,rfl⟩,s3,G1,hG1,m3,m4,m5⟩:=hP
    obtain ⟨oth,eoth,rfl,jlt⟩:=strAt hv
    have cb:i * 30 + j < 16000000:=by
     have:i * 30<=30 * 30:=Nat.mul_le_mul_right _ (by (first|lia|omega))
     (first|lia|omega)
    refine ⟨(by show 2<=sizeLine; (first|lia|omega)),fun L hL=>?_⟩
    have q1:=same_upd (o:=.lst [.non,.int 0]) hL
    have hL':(upd H3 L (.lst [.non,.int 0])) L=some (.lst [.non,.int 0]):=upd_same
    generalize upd H3 L (.lst [.non,.int 0])=H4 at q1 hL' ⊢
    have ix:atI [V.non,.int 0] (if decide (V.str one=V.str oth)=true then 1 else 0)=some (oI (if one=oth then some 0 else none)):=by
     by_cases z:one=oth
     ·subst z
      rw [if_pos (decide_eq_true rfl),if_pos rfl]
      rfl
     ·rw [if_neg (fun h=>z (by have:=of_decide_eq_true h; injection this)),if_neg z]
      rfl
    refine ⟨_,rfl,_,rfl,rfl,.inr ⟨_,rfl,L,_,_,_,rfl,rfl,SqL.of hL',ix,?_⟩⟩
    refine ⟨_,rfl,_,rfl,_,rfl,two,fun t ht=>?_⟩
    have q2:=q1.trans (same_upd (o:=.tup [.str one,.str oth]) ht)
    obtain ⟨H5,dp,hG5,kvs,e5⟩:=(hG1.same q2).put (by (first|lia|omega)) (v:=oI (if one=oth then some 0 else none)) (t:=t) (x:=one) (y:=oth) upd_same
    refine ⟨A,H5,rfl,dp,hNj _ _ ⟨⟨_,_,_,_,rfl⟩,fun b u z=>?_,_,hG5.up (by (first|lia|omega)),fun x y v h=>?_,fun a x ha ex y hy=>?_,fun b y hb ey=>?_⟩⟩
    ·rw [e5,upd_ne (nAD z)]
     exact q2 _ _ (s3 _ _ z)
    ·unfold setV at h
     split at h
     ·rename_i hc
      obtain ⟨rfl,rfl⟩:=hc
      cases h
      exact ⟨List.mem_of_getElem? eone,List.mem_of_getElem? eoth,rfl⟩
     ·exact m3 x y v h
    ·unfold setV
     split
     ·exact ⟨_,rfl⟩
     ·exact m4 a x ha ex y hy
    ·unfold setV
     split
     ·exact ⟨_,rfl⟩
     ·rename_i hc
      refine m5 b y ?_ ey
      have:b ≠ j:=by
       rintro rfl
       rw [eoth] at ey
       exact hc ⟨rfl,(Option.some.inj ey).symm⟩
      (first|lia|omega)
   ·obtain ⟨⟨v5,v6,v7,v8,rfl⟩,s3,G1,hG1,m3,m4,m5⟩:=hP
    rw [List.length_map] at hG1 m5
    refine hNi _ _ ⟨⟨_,_,_,_,_,rfl⟩,s3,G1,hG1.up (by (first|lia|omega)),m3,fun a x ha ex y hy=>?_⟩
    by_cases ea:a=i
    ·subst ea
     rw [eone] at ex
     cases ex
     obtain ⟨b,hb,eb⟩:=List.getElem_of_mem hy
     exact m5 b y hb (by rw [List.getElem?_eq_getElem hb,eb])
    ·exact m4 a x (by (first|lia|omega)) ex y hy
  obtain ⟨⟨v4,v5,v6,v7,v8,rfl⟩,s2,G,hG,m1,m2⟩:=hP
  rw [List.length_map] at hG m2
  obtain ⟨M,hMe⟩:∃ M:Str->Str->Option Int,M=fun x y=>if x=y/\x ∈ xs then some 0 else none:=⟨_,rfl⟩
  have hM:MO H2 A xs M 1000:=by
   refine ⟨G,hG.up (by (first|lia|omega)),fun x hx y hy=>?_,fun x y hn=>?_⟩
   ·obtain ⟨a,ha,ea⟩:=List.getElem_of_mem hx
    obtain ⟨v,hv⟩:=m2 a x ha (by rw [List.getElem?_eq_getElem ha,ea]) y hy
    rw [hv,(m1 x y v hv).2.2,hMe]
    by_cases z:x=y
    ·rw [if_pos z]
     show _=some (oI (if x=y/\x ∈ xs then some 0 else none))
     rw [if_pos ⟨z,hx⟩]
    ·rw [if_neg z]
     show _=some (oI (if x=y/\x ∈ xs then some 0 else none))
     rw [if_neg (fun h=>z h.1)]
   ·cases hg:G x y with
    | none=>rfl
    | some v=>exact absurd ⟨(m1 x y v hg).1,(m1 x y v hg).2.1⟩ hn
  have m1:∀ x y n,M x y=some n->x=y/\n=0:=fun x y n h=>by
   rw [hMe] at h
   dsimp only at h
   split at h
   ·rename_i hc
    cases h
    exact ⟨hc.1,rfl⟩
   ·cases h
  have diag0:∀ x ∈ xs,M x x=some 0:=fun x hx=>by
   rw [hMe]
   exact if_pos ⟨rfl,hx⟩
  refine ⟨_,rfl,e,rfl,⟨_,SqT.of (s2 _ _ hE)⟩,for_tupN (xs:=us) (fun i σ H3=>(∃ v4 v5 v6 v7 v8,σ=[some (.ref cc),some (.ref D),some (.ref e),some (.ref A),v4,v5,v6,v7,v8])/\Same H H3/\∃ M,MO H3 A xs M (1000 + 2 * i)/\(∀ x y n,M x y=some n->(x=y/\n=0)\/Edge ws x y n)/\(∀ x ∈ xs,M x x=some 0)/\∀ x y n,Edge (ws.take i) x y n->M x y=some n)
   ⟨⟨_,_,_,_,_,rfl⟩,s2,M,(hM.up (by (first|lia|omega))),fun x y n h=>.inl (m1 x y n h),diag0,fun x y n h=>(by obtain ⟨u,hu,_⟩:=h; exact absurd hu List.not_mem_nil)⟩ (fun i σ H3 _ hP=>SqT.of (hP.2.1 _ _ hE)) (fun i v σ H3 hv hP rt bk N hN=>?_) (fun σ H3 hP=>?_)⟩
  ·obtain ⟨⟨v4,v5,v6,v7,v8,rfl⟩,s3,M,hM,n1,n2,n3⟩:=hP
   obtain ⟨u,tt,gu,rfl,htt⟩:=dats_way hW hv
   have um:=List.mem_of_getElem? gu
   have une:u.1 ≠ u.2.1:=(wof u um).2.2.1
   have hi:i < ws.length:=(List.getElem?_eq_some_iff.mp gu).1
   refine ⟨tt,_,rfl,SqT.of (s3 _ _ htt),rfl,_,_,rfl,_,_,rfl,_,_,rfl,rfl,?_⟩
   refine ⟨_,rfl,_,rfl,_,rfl,_,rfl,two,fun t ht=>?_⟩
   obtain ⟨H4,dp,hM4,kvs,e4⟩:=(hM.same (same_upd (o:=.tup [.str u.1,.str u.2.1]) ht)).put (by (first|lia|omega)) (wof u um).1 (wof u um).2.1 (n:=u.2.2) (t:=t) (x:=u.1) (y:=u.2.1) upd_same
   have s4:Same H H4:=fun b o z=>by
    rw [e4,upd_ne (nAD z)]
    exact same_upd ht _ _ (s3 _ _ z)
   refine ⟨A,H4,rfl,dp,?_⟩
   refine ⟨_,rfl,_,rfl,_,rfl,_,rfl,two,fun t2 ht2=>?_⟩
   obtain ⟨H5,dp2,hM5,kvs2,e5⟩:=(hM4.same (same_upd (o:=.tup [.str u.2.1,.str u.1]) ht2)).put (by (first|lia|omega)) (wof u um).2.1 (wof u um).1 (n:=u.2.2) (t:=t2) (x:=u.2.1) (y:=u.1) upd_same
   refine ⟨A,H5,rfl,dp2,hN _ _ ⟨⟨_,_,_,_,_,rfl⟩,fun b o z=>?_,_,(hM5.up (by (first|lia|omega))),fun a b n h=>?_,fun x hx=>?_,fun a b n h=>?_⟩⟩
   ·rw [e5,upd_ne (nAD z)]
    exact same_upd ht2 _ _ (s4 _ _ z)
   ·unfold setM at h
    split at h
    ·rename_i hc
     cases h
     exact .inr ⟨u,um,.inr ⟨hc.2.symm,hc.1.symm⟩,rfl⟩
    ·split at h
     ·rename_i hc
      cases h
      exact .inr ⟨u,um,.inl ⟨hc.1.symm,hc.2.symm⟩,rfl⟩
     ·exact n1 a b n h
   ·unfold setM
    rw [if_neg (fun z=>une (z.2.symm.trans z.1)),if_neg (fun z=>une (z.1.symm.trans z.2))]
    exact n2 x hx
   ·have hE':Edge ws a b n:=by
     obtain ⟨v,hv,r⟩:=h
     exact ⟨v,List.mem_of_mem_take hv,r⟩
    unfold setM
    split
    ·rename_i hc
     have:=uni _ _ _ _ hE' ⟨u,um,.inr ⟨hc.2.symm,hc.1.symm⟩,rfl⟩
     rw [this]
    ·rename_i hc1
     split
     ·rename_i hc
      have:=uni _ _ _ _ hE' ⟨u,um,.inl ⟨hc.1.symm,hc.2.symm⟩,rfl⟩
      rw [this]
     ·rename_i hc2
      refine n3 a b n ?_
      obtain ⟨v,hv,ev,el⟩:=h
      rw [List.take_add_one,gu] at hv
      rcases List.mem_append.mp hv with hv | hv
      ·exact ⟨v,hv,ev,el⟩
      ·have:v=u:=by simpa using hv
       subst this
       rcases ev with ⟨x1,x2⟩ | ⟨x1,x2⟩
       ·exact absurd ⟨x1.symm,x2.symm⟩ hc2
       ·exact absurd ⟨x2.symm,x1.symm⟩ hc1
  obtain ⟨⟨v4,v5,v6,v7,v8,rfl⟩,s3,M,hM,n1,n2,n3⟩:=hP
  rw [hwl,List.take_length] at n3
  have FW0:FW ws xs 0 M:=by
   refine ⟨fun x y n h=>?_,fun x y m g=>?_,fun x hx=>⟨0,n2 x hx,Int.le_refl _⟩⟩
   ·rcases n1 x y n h with ⟨rfl,rfl⟩ | h
    ·exact .nil x
    ·have:=Wsum.cons h (.nil y)
     rwa [Int.add_zero] at this
   ·cases g with
    | edge e=>exact ⟨m,n3 x y m e,Int.le_refl _⟩
    | cons _ h _=>exact absurd h List.not_mem_nil
  refine ⟨_,rfl,D,rfl,⟨_,SqT.of (s3 _ _ hD)⟩,for_tupN (xs:=xs.map V.str) (fun t σ H4=>(∃ v4 v5 v6 v7 v8,σ=[some (.ref cc),some (.ref D),some (.ref e),some (.ref A),v4,v5,v6,v7,v8])/\Same H H4/\∃ M,MO H4 A xs M (2000 + t * 1000)/\FW ws xs t M)
   ⟨⟨_,_,_,_,_,rfl⟩,s3,M,(hM.up (by (first|lia|omega))),FW0⟩ (fun i σ H4 _ hP=>SqT.of (hP.2.1 _ _ hD)) (fun t v σ H4 hv hP rt bk N hNt=>?_) (fun σ H4 hP=>?_)⟩
  ·obtain ⟨⟨v4,v5,v6,v7,v8,rfl⟩,s4,M0,hM0,fw⟩:=hP
   have strAt:∀ {i:Nat} {v:V},(xs.map V.str)[i]? = some v->∃ x,xs[i]? = some x/\v=.str x/\i < xs.length:=fun {i v} h=>by
    rw [List.getElem?_map] at h
    cases ex:xs[i]? with
    | none=>rw [ex] at h; cases h
    | some x=>rw [ex] at h; exact ⟨x,rfl,(Option.some.inj h).symm,(List.getElem?_eq_some_iff.mp ex).1⟩
   obtain ⟨mid,emid,rfl,tlt⟩:=strAt hv
   refine ⟨_,rfl,D,rfl,⟨_,SqT.of (s4 _ _ hD)⟩,for_tupN (xs:=xs.map V.str) (fun i σ H5=>(∃ v4 v5 v6 v8,σ=[some (.ref cc),some (.ref D),some (.ref e),some (.ref A),v4,v5,v6,some (.str mid),v8])/\Same H H5/\∃ M,MO H5 A xs M (2000 + t * 1000 + i * 30)/\Mono M0 M/\(∀ x y n,M x y=some n->Wsum ws x y n)/\∀ (a:Nat) x,a < i->xs[a]? = some x->∀ y ∈ xs,∀ p1 p2,M0 x mid=some p1->M0 mid y=some p2->∃ n,M x y=some n/\n<=p1 + p2)
    ⟨⟨_,_,_,_,rfl⟩,s4,M0,(hM0.up (by (first|lia|omega))),Mono.refl _,fw.sound,fun a x ha=>absurd ha (Nat.not_lt_zero _)⟩ (fun i σ H5 _ hP=>SqT.of (hP.2.1 _ _ hD)) (fun i v σ H5 hv hP rt bk N hNi=>?_) (fun σ H5 hP=>?_)⟩
   ·obtain ⟨⟨v4,v5,v6,v8,rfl⟩,s5,M1,hM1,mo1,so1,via1⟩:=hP
    obtain ⟨one,eone,rfl,ilt⟩:=strAt hv
    refine ⟨_,rfl,D,rfl,⟨_,SqT.of (s5 _ _ hD)⟩,for_tupN (xs:=xs.map V.str) (fun j σ H6=>(∃ v5 v6 v8,σ=[some (.ref cc),some (.ref D),some (.ref e),some (.ref A),some (.str one),v5,v6,some (.str mid),v8])/\Same H H6/\∃ M,MO H6 A xs M (2000 + t * 1000 + i * 30 + j)/\Mono M1 M/\(∀ x y n,M x y=some n->Wsum ws x y n)/\∀ (b:Nat) y,b < j->xs[b]? = some y->∀ p1 p2,M0 one mid=some p1->M0 mid y=some p2->∃ n,M one y=some n/\n<=p1 + p2)
     ⟨⟨_,_,_,rfl⟩,s5,M1,(hM1.up (by (first|lia|omega))),Mono.refl _,so1,fun b y hb=>absurd hb (Nat.not_lt_zero _)⟩ (fun i σ H6 _ hP=>SqT.of (hP.2.1 _ _ hD)) (fun j v σ H6 hv hP rt bk N hNj=>?_) (fun σ H6 hP=>?_)⟩
    ·obtain ⟨⟨v5,v6,v8,rfl⟩,s6,M2,hM2,mo2,so2,via2⟩:=hP
     obtain ⟨oth,eoth,rfl,jlt⟩:=strAt hv
     have cb:2000 + t * 1000 + i * 30 + j < 16000000:=by
      have:t * 1000<=30 * 1000:=Nat.mul_le_mul_right _ (by (first|lia|omega))
      have:i * 30<=30 * 30:=Nat.mul_le_mul_right _ (by (first|lia|omega))
      (first|lia|omega)
     have moAll:=mo1.trans mo2
     have keepM:∀ {H7:Hp} {v8':Option V},Same H6 H7->(∀ p1 p2,M0 one mid=some p1->M0 mid oth=some p2->∃ n,M2 one oth=some n/\n<=p1 + p2) ->
       (∃ w5 w6 w8,([some (.ref cc),some (.ref D),some (.ref e),some (.ref A),some (.str one),some (.str oth),v6,some (.str mid),v8']:St)=[some (.ref cc),some (.ref D),some (.ref e),some (.ref A),some (.str one),w5,w6,some (.str mid),w8])/\Same H H7/\∃ M,MO H7 A xs M (2000 + t * 1000 + i * 30 + (j + 1))/\Mono M1 M/\(∀ x y n,M x y=some n->Wsum ws x y n)/\∀ (b:Nat) y,b < j + 1->xs[b]? = some y->∀ p1 p2,M0 one mid=some p1->M0 mid y=some p2->∃ n,M one y=some n/\n<=p1 + p2:=by
      intro H7 v8' s7 hv2
      refine ⟨⟨_,_,_,rfl⟩,s6.trans s7,M2,((hM2.same s7).up (by (first|lia|omega))),mo2,so2,fun b y hb ey p1 p2 q1 q2=>?_⟩
      by_cases eb:b=j
      ·subst eb
       rw [eoth] at ey
       cases ey
       exact hv2 p1 p2 q1 q2
      ·exact via2 b y (by (first|lia|omega)) ey p1 p2 q1 q2
     have hone:one ∈ xs:=List.mem_of_getElem? eone
     have hoth:oth ∈ xs:=List.mem_of_getElem? eoth
     have hmid:mid ∈ xs:=List.mem_of_getElem? emid
     refine ⟨_,rfl,_,rfl,_,rfl,two,fun t1 ht1=>?_⟩
     have z1:=same_upd (o:=.tup [.str one,.str mid]) ht1
     refine ⟨A,_,rfl,(hM2.same z1).get hone hmid upd_same,_,rfl,?_⟩
     cases eo:M2 one mid with
     | none=>
      refine iteF ?_
      refine iteF ?_
      refine hNj _ _ (keepM z1 fun p1 p2 q1 _=>?_)
      obtain ⟨n',e',_⟩:=moAll one mid p1 q1
      rw [eo] at e'
      cases e'
     | some a1=>
      refine iteT ?_
      refine ⟨_,rfl,_,rfl,_,rfl,two,fun t2 ht2=>?_⟩
      have z2:=z1.trans (same_upd (o:=.tup [.str mid,.str oth]) ht2)
      refine ⟨A,_,rfl,(hM2.same z2).get hmid hoth upd_same,_,rfl,?_⟩
      cases em:M2 mid oth with
      | none=>
       refine iteF ?_
       refine hNj _ _ (keepM z2 fun p1 p2 _ q2=>?_)
       obtain ⟨n',e',_⟩:=moAll mid oth p2 q2
       rw [em] at e'
       cases e'
      | some a2=>
       refine iteT ?_
       refine ⟨_,rfl,_,rfl,_,rfl,two,fun t3 ht3=>?_⟩
       have z3:=z2.trans (same_upd (o:=.tup [.str one,.str mid]) ht3)
       have g3:=(hM2.same z3).get (x:=one) (y:=mid) (t:=t3) hone hmid upd_same
       rw [eo] at g3
       refine ⟨A,.int a1,rfl,g3,_,rfl,_,rfl,_,rfl,two,fun t4 ht4=>?_⟩
       have z4:=z3.trans (same_upd (o:=.tup [.str mid,.str oth]) ht4)
       have g4:=(hM2.same z4).get (x:=mid) (y:=oth) (t:=t4) hmid hoth upd_same
       rw [em] at g4
       refine ⟨A,.int a2,rfl,g4,_,_,rfl,rfl,?_⟩
       have low:∀ p1 p2,M0 one mid=some p1->M0 mid oth=some p2->a1 + a2<=p1 + p2:=fun p1 p2 q1 q2=>by
        obtain ⟨n1',e1',l1'⟩:=moAll one mid p1 q1
        obtain ⟨n2',e2',l2'⟩:=moAll mid oth p2 q2
        rw [eo] at e1'
        rw [em] at e2'
        cases e1'
        cases e2'
        (first|lia|omega)
       have putM:∀ {H7:Hp} (nn:Int),Same H6 H7->nn<=a1 + a2->(∀ n,M2 one oth=some n->nn<=n)->Wsum ws one oth nn->∀ t6,H7 t6=none->∃ a H8,V.ref A=.ref a/\DPut (upd H7 t6 (.tup [.str one,.str oth])) a (.ref t6) (.int nn) H8 /\
         ((∃ w5 w6 w8,([some (.ref cc),some (.ref D),some (.ref e),some (.ref A),some (.str one),some (.str oth),v6,some (.str mid),some (.int (a1 + a2))]:St)=[some (.ref cc),some (.ref D),some (.ref e),some (.ref A),some (.str one),w5,w6,some (.str mid),w8])/\Same H H8/\∃ M,MO H8 A xs M (2000 + t * 1000 + i * 30 + (j + 1))/\Mono M1 M/\(∀ x y n,M x y=some n->Wsum ws x y n)/\∀ (b:Nat) y,b < j + 1->xs[b]? = some y->∀ p1 p2,M0 one mid=some p1->M0 mid y=some p2->∃ n,M one y=some n/\n<=p1 + p2):=by
        intro H7 nn s7 hle1 hle hws t6 ht6
        have z6:=s7.trans (same_upd (o:=.tup [.str one,.str oth]) ht6)
        obtain ⟨H8,dp,hM8,kvs,e8⟩:=(hM2.same z6).put (by (first|lia|omega)) hone hoth (n:=nn) (t:=t6) (x:=one) (y:=oth) upd_same
        have mo8:Mono M2 (setM M2 one oth nn):=fun x y n h=>by
         unfold setM
         split
         ·rename_i hc
          obtain ⟨rfl,rfl⟩:=hc
          exact ⟨_,rfl,hle n h⟩
         ·exact ⟨n,h,Int.le_refl _⟩
        refine ⟨A,H8,rfl,dp,⟨_,_,_,rfl⟩,fun b o z=>?_,_,hM8,mo2.trans mo8,fun x y n h=>?_,fun b y hb ey p1 p2 q1 q2=>?_⟩
        ·rw [e8,upd_ne (nAD z)]
         exact z6 _ _ (s6 _ _ z)
        ·unfold setM at h
         split at h
         ·rename_i hc
          obtain ⟨rfl,rfl⟩:=hc
          cases h
          exact hws
         ·exact so2 x y n h
        ·by_cases eb:b=j
         ·subst eb
          rw [eoth] at ey
          cases ey
          refine ⟨nn,?_,Int.le_trans hle1 (low p1 p2 q1 q2)⟩
          unfold setM
          rw [if_pos ⟨rfl,rfl⟩]
         ·obtain ⟨n,en,ln⟩:=via2 b y (by (first|lia|omega)) ey p1 p2 q1 q2
          obtain ⟨n',en',ln'⟩:=mo8 one y n en
          exact ⟨n',en',by (first|lia|omega)⟩
       have w12:=(so2 _ _ _ eo).app (so2 _ _ _ em)
       refine ⟨_,rfl,_,rfl,_,rfl,two,fun t5 ht5=>?_⟩
       have z5:=z4.trans (same_upd (o:=.tup [.str one,.str oth]) ht5)
       refine ⟨A,_,rfl,(hM2.same z5).get (x:=one) (y:=oth) (t:=t5) hone hoth upd_same,_,rfl,?_⟩
       cases ez:M2 one oth with
       | none=>
        refine iteT ?_
        refine iteT ?_
        refine ⟨_,rfl,_,rfl,_,rfl,_,rfl,two,fun t6 ht6=>?_⟩
        exact (putM (a1 + a2) z5 (Int.le_refl _) (fun n h=>by rw [ez] at h; cases h) w12 t6 ht6).imp fun _ h=>h.imp fun _ h=>⟨h.1,h.2.1,hNj _ _ h.2.2⟩
       | some a3=>
        refine iteF ?_
        refine ⟨_,rfl,_,rfl,_,rfl,_,rfl,two,fun t6 ht6=>?_⟩
        have z6:=z5.trans (same_upd (o:=.tup [.str one,.str oth]) ht6)
        have g6:=(hM2.same z6).get (x:=one) (y:=oth) (t:=t6) hone hoth upd_same
        rw [ez] at g6
        refine ⟨A,.int a3,rfl,g6,_,_,rfl,rfl,_,rfl,?_⟩
        refine ite2 (fun hlt=>?_) (fun hlt=>?_)
        ·have hlt:=of_decide_eq_true hlt
         refine ⟨_,rfl,_,rfl,_,rfl,_,rfl,two,fun t7 ht7=>?_⟩
         exact (putM (a1 + a2) z6 (Int.le_refl _) (fun n h=>by rw [ez] at h; cases h; (first|lia|omega)) w12 t7 ht7).imp fun _ h=>h.imp fun _ h=>⟨h.1,h.2.1,hNj _ _ h.2.2⟩
        ·have hlt:¬ a1 + a2 < a3:=fun z=>hlt (decide_eq_true z)
         refine hNj _ _ (keepM z6 fun p1 p2 q1 q2=>⟨a3,ez,?_⟩)
         have:=low p1 p2 q1 q2
         (first|lia|omega)
    ·obtain ⟨⟨v5,v6,v8,rfl⟩,s6,M2,hM2,mo2,so2,via2⟩:=hP
     rw [List.length_map] at hM2 via2
     refine hNi _ _ ⟨⟨_,_,_,_,rfl⟩,s6,M2,(hM2.up (by (first|lia|omega))),mo1.trans mo2,so2,fun a x ha ex y hy p1 p2 q1 q2=>?_⟩
     by_cases ea:a=i
     ·subst ea
      rw [eone] at ex
      cases ex
      obtain ⟨b,hb,eb⟩:=List.getElem_of_mem hy
      exact via2 b y hb (by rw [List.getElem?_eq_getElem hb,eb]) p1 p2 q1 q2
     ·obtain ⟨n,en,ln⟩:=via1 a x (by (first|lia|omega)) ex y hy p1 p2 q1 q2
      obtain ⟨n',en',ln'⟩:=mo2 x y n en
      exact ⟨n',en',by (first|lia|omega)⟩
   ·obtain ⟨⟨v4,v5,v6,v8,rfl⟩,s5,M1,hM1,mo1,so1,via1⟩:=hP
    rw [List.length_map] at hM1 via1
    refine hNt _ _ ⟨⟨_,_,_,_,_,rfl⟩,s5,M1,(hM1.up (by (first|lia|omega))),fw.next pos ends emid mo1 so1 fun x hx y hy p1 p2 q1 q2=>?_⟩
    obtain ⟨a,ha,ea⟩:=List.getElem_of_mem hx
    exact via1 a x ha (by rw [List.getElem?_eq_getElem ha,ea]) y hy p1 p2 q1 q2
  ·obtain ⟨⟨v4,v5,v6,v7,v8,rfl⟩,s4,M1,hM1,fw⟩:=hP
   rw [List.length_map] at hM1 fw
   exact ⟨_,rfl,k H4 A s4 hA ⟨_,_,hM1.md (fun x hx y hy=>let ⟨nn,e,_⟩:=fw.doneW ends (fun x hx y hy=>let ⟨kk,a,_⟩:=mw.sums nn1 nn30 x hx y hy; ⟨kk,a⟩) x hx y hy; ⟨nn,e⟩),fun x hx y hy=>(fw.doneW ends (fun x hx y hy=>let ⟨kk,a,_⟩:=mw.sums nn1 nn30 x hx y hy; ⟨kk,a⟩) x hx y hy).imp fun nn h=>⟨by rw [if_pos ⟨hx,hy⟩]; exact h.1,h.2,mw.bound nn1 nn30 hx hy h.2⟩⟩⟩
end
section
variable {P:Program} {w:World} {K:PySem.W.Frag} {mg:Str->Option Value} {base:Heap}
theorem ok_gets_from (h_dict:mg "dict"=none) (h_max:mg "max"=none) (h_sum:mg "sum"=none) {f:Addr} {fd:FuncData} (F:Fun K "gets_from" "gets_from" s_gets_from f fd):FnOk P w K mg base CX0 1 f fd ["case","prices","away"] spGetsFrom:=by
 refine F.ok sc_gets_from (fun vs H Q E h=>?_) (fun cdv A outer s H vs Q E hr h=>?_)
 ·obtain ⟨c,m,t,n,xs,ws,rs1,rs2,qs,x,d,v,y,rfl,_⟩:=h
  rfl
 ·obtain ⟨c,m,t,n,xs,ws,rs1,rs2,qs,x,d,v,y,rfl,cp,fa,k⟩:=h
  have nd:=sc_gets_from.nd
  have hu:=hu_of hr
  have hu64:=hr.units
  have big:100000 < sizeLine:=by decide
  refine ⟨_,(pss_cons (ps_set (i:=3) nd rfl (Or.inr rfl) (pe_callTy (call_dict_pairsT rfl) (by rfl) h_dict PyProof.Rows.boot_dict (pa_cons (pe_ix ix_tup (pv 0) pe_int (fun _ _=>rfl)) pa_nil)))
  (pss_one (ps_ret (pe_callB (call_sum_ints rfl) (by rfl) h_sum PyProof.Rows.boot_sum (pa_cons (pe_comp (N:=["place","price","away","manys"]) (σ0:=fun σ=>[none,none,some 2,some 3].map fun j=>j.bind fun j=>(σ[j]?).join) rfl (CompOk.caught (by rfl) (by decide +kernel) rfl (by decide +kernel) (by intro y hy; simp only [List.mem_cons,List.not_mem_nil,or_false] at hy; rcases hy with rfl | rfl <;> rfl)
   (by intro y hy e; simp only [List.mem_cons,List.not_mem_nil,or_false] at hy; rcases hy with rfl | rfl | rfl | rfl | rfl | rfl <;> first | exact ⟨_,rfl⟩ | cases e)) (fun σ _=>Carry.of [none,none,some 2,some 3] rfl (by
   intro i j x h1 h2
   match i,h1,h2 with
   | 0,_,h2=>cases h2
   | 1,_,h2=>cases h2
   | 2,h1,h2=>cases h1; cases h2; exact ⟨rfl,.inl rfl,.inl rfl⟩
   | 3,h1,h2=>cases h1; cases h2; exact ⟨rfl,.inl rfl,.inl rfl⟩
   | n + 4,h1,_=>cases h1)) (pi_tup (pv 1))
   (fun s2 H C fp=>⟨(pg_tupK K rfl (n:=2) rfl (pgs_cons (pg_name (i:=0) (show (["place","price","away","manys"]:List Str).Nodup by decide +kernel) rfl (Or.inl rfl)) (pgs_cons (pg_name (i:=1) (show (["place","price","away","manys"]:List Str).Nodup by decide +kernel) rfl (Or.inl rfl)) pgs_nil))),pts_nil,(pe_callB (call_max2 rfl) (by rfl) h_max PyProof.Rows.boot_max (pa_cons (pe_op op_sub (pv 1) (pe_op op_mul (pe_dget hu (pv 3) (pv 0) (fun _ _=>rfl)) (pe_dget hu (pv 2) (pv 0) (fun _ _=>rfl)))) (pa_cons pe_int pa_nil)))⟩)) pa_nil))))),?_⟩
  obtain ⟨us,ht,du⟩:=cp.ex
  obtain ⟨t1,t2,us1,us2,hc,ht1,hd1,ht2,hd2⟩:=cp.cw.ex
  have ul:=rows_len du
  have ul2:=rows_len hd2
  have l2:=cp.cw.l2
  have ql:=cp.ok.len
  have xnd:=cp.cw.map.at'.nd
  refine ⟨_,rfl,c,_,_,_,rfl,rfl,SqT.of hc,rfl,t2,us2,rowP rs2,rfl,ht2,by unfold rowP; rw [List.length_map]; exact ul2,rowP_at hd2,by rw [rowP_keys]; exact cp.cw.ok2.nd,by unfold rowP; rw [List.length_map]; (first|lia|omega),fun B hB=>?_⟩
  have s1:=same_upd (o:=.dK (sK (rowP rs2))) hB
  have hBB:(upd H B (.dK (sK (rowP rs2)))) B=some (.dK (sK (rowP rs2))):=upd_same
  generalize upd H B (.dK (sK (rowP rs2)))=H1 at s1 hBB
  refine ⟨_,rfl,t,rfl,⟨_,SqT.of (s1 _ _ ht)⟩,?_⟩
  refine read_map over_tup (xs:=us) (fun D i σ' H' acc=>∃ v0 v1:Option V,σ'=[v0,v1,some v,some (.ref B)]/\Same H1 H'/\H' D=some (.lst acc)/\acc=(((rs2.zip qs).take i).map fun z=>getF ws y z.1 z.2.2).map V.int/\acc.length=i)
   (by (first|lia|omega)) (fun D hD=>⟨_,_,rfl,same_upd hD,upd_same,rfl,rfl⟩) (fun D i σ' H' acc hD ⟨v0,v1,_,sa,hDD,_,al⟩=>⟨SqT.of (sa _ _ (s1 _ _ ht)),hDD,al⟩) ?_ ?_
  ·rintro D i σ' H' acc x' Bk hD ex ⟨v0,v1,rfl,sa,hDD,ea,al⟩ hBk
   obtain ⟨q,tt,eq,rfl,htt⟩:=dats_row du ex
   obtain ⟨r,er,rq⟩:=cp.ok.at eq
   have rm:=List.mem_of_getElem? er
   have hq1:q.1 ∈ rs2.map (·.1):=List.mem_map.mpr ⟨r,rm,rq⟩
   have ec:costOf rs2 q.1=r.2:=by rw [<-rq]; exact costOf_mem cp.cw.ok2.nd rm
   have r4:=cp.few r rm
   have r1:=(cp.cw.ok2.lo r rm).1
   obtain ⟨B2,rfl,g2⟩:=((fa.same s1).same sa).get xnd (cp.names q (List.mem_of_getElem? eq)).1
   have g1:=rowP_get (sa _ _ hBB) cp.cw.ok2.nd hq1
   rw [ec] at g1
   refine ⟨tt,_,rfl,SqT.of (sa _ _ (s1 _ _ htt)),rfl,_,_,rfl,_,_,rfl,rfl,?_⟩
   refine ⟨_,rfl,_,rfl,_,rfl,B,_,rfl,g1,_,rfl,_,rfl,B2,_,rfl,g2,_,_,rfl,rfl,.inl ⟨by (first|lia|omega),by (first|lia|omega)⟩,_,_,rfl,rfl,_,_,rfl,?_⟩
   refine hBk _ _ _ hDD ⟨_,_,rfl,fun b o e=>by rw [upd_ne (ne_of_none e hD)]; exact sa _ _ e,upd_same,?_,by rw [List.length_append,al]; rfl⟩
   rw [ea,gets_take er eq,List.map_append,max_if]
   unfold getF
   rw [rq]
   rfl
  ·rintro D σ' H' acc hD ⟨v0,v1,rfl,sa,hDD,ea,al⟩
   refine ⟨D,_,rfl,SqL.of (by rw [hDD,ea]),?_⟩
   have e:us.length=(rs2.zip qs).length:=by rw [zip_len ql]; (first|lia|omega)
   rw [e,List.take_length]
   exact k _ (s1.trans sa)
end
section
variable {P:Program} {w:World} {K:PySem.W.Frag} {mg:Str->Option Value} {base:Heap}
theorem ok_site_fars {fF:Addr} {fdF:FuncData} (XF:Fn K mg "fars" s_fars ["web","place"] fF fdF) (GF:FnOk P w K mg base CX0 3 fF fdF ["web","place"] (spFars K)) {f:Addr} {fd:FuncData} (F:Fun K "site_fars" "site_fars" s_site_fars f fd):FnOk P w K mg base CX0 4 f fd ["case"] spSiteFars:=by
 refine F.ok sc_site_fars (fun vs H Q E h=>?_) (fun cdv A outer s H vs Q E hr h=>?_)
 ·obtain ⟨c,m,n,xs,ws,rs1,rs2,x,d,rfl,_⟩:=h
  rfl
 ·obtain ⟨c,m,n,xs,ws,rs1,rs2,x,d,rfl,cw,k⟩:=h
  have nd:=sc_site_fars.nd
  have hu:=hu_of hr
  have hu64:=hr.units
  have big:100000 < sizeLine:=by decide
  refine ⟨_,(pss_one (ps_ret (pe_dcomp (N:=["place","price","case"]) (σ0:=fun σ=>[none,none,some 0].map fun j=>j.bind fun j=>(σ[j]?).join) rfl (CompOk.caught (by rfl) (by decide +kernel) rfl (by decide +kernel) (by intro y hy; simp only [List.mem_cons,List.not_mem_nil,or_false] at hy; rcases hy with rfl <;> rfl)
   (by intro y hy e; simp only [List.mem_cons,List.not_mem_nil,or_false] at hy; rcases hy with rfl | rfl | rfl | rfl | rfl <;> first | exact ⟨_,rfl⟩ | cases e)) (fun σ _=>Carry.of [none,none,some 0] rfl (by
   intro i j x h1 h2
   match i,h1,h2 with
   | 0,_,h2=>cases h2
   | 1,_,h2=>cases h2
   | 2,h1,h2=>cases h1; cases h2; exact ⟨rfl,.inl rfl,.inl rfl⟩
   | n + 3,h1,_=>cases h1)) (pi_tupK K rfl (pe_ix (ix_tupK K rfl) (pv 0) pe_int (fun _ _=>rfl)))
   (fun s2 H C fp=>⟨(pg_tupK K rfl (n:=2) rfl (pgs_cons (pg_name (i:=0) (show (["place","price","case"]:List Str).Nodup by decide +kernel) rfl (Or.inl rfl)) (pgs_cons (pg_name (i:=1) (show (["place","price","case"]:List Str).Nodup by decide +kernel) rfl (Or.inl rfl)) pgs_nil))),pts_nil,(pv 0),(pe_call GF (hr.mono (by decide)) (by rfl) XF.mg XF.F.kp XF.b .nil pass0 (pa_cons (pe_ix (ix_tupK K rfl) (pv 2) pe_int (fun _ _=>rfl)) (pa_cons (pv 0) pa_nil)))⟩)))),?_⟩
  obtain ⟨t1,t2,us1,us2,hc,ht1,hd1,ht2,hd2⟩:=cw.ex
  obtain ⟨r,okw,pos,uni⟩:=cw.map.web cw.n1 cw.n30
  have ul:=rows_len hd1
  have l1:=cw.l1
  refine ⟨_,rfl,c,_,_,_,rfl,rfl,SqT.of hc,rfl,t1,rfl,⟨_,SqT.of ht1⟩,?_⟩
  refine read_dmap over_tup (xs:=us1) (rs1.map (·.1)) (by rw [List.length_map,ul]) cw.ok1.nd (fun D i σ H' nv=>∃ (v0 v1:Option V),σ=[v0,v1,some (.ref c)]/\Same H H'/\H' D=some (.dK (sK nv))/\nv.map (·.1)=(rs1.map (·.1)).take i/\∀ s v,(s,v) ∈ nv->FarsAt H' v xs ws s)
   (by (first|lia|omega)) (fun D hD=>⟨_,_,rfl,same_upd hD,upd_same,rfl,fun s v hm=>nomatch hm⟩) (fun D i σ H' nv hD ⟨v0,v1,_,sa,hDD,nk,_⟩=>⟨SqT.of (sa _ _ ht1),hDD,nk⟩) ?_ ?_
  ·rintro D i σ H' nv x' kk B hD ex ek ⟨v0,v1,rfl,sa,hDD,nk,nf⟩ hB
   obtain ⟨u,t,eu,rfl,ht⟩:=dats_row hd1 ex
   have e:kk=u.1:=by
    rw [List.getElem?_map,eu] at ek
    exact (Option.some.inj ek).symm
   subst e
   refine ⟨t,_,rfl,SqT.of (sa _ _ ht),rfl,_,_,rfl,_,_,rfl,rfl,?_⟩
   refine ⟨_,rfl,_,rfl,c,_,_,_,rfl,rfl,SqT.of (sa _ _ hc),rfl,_,rfl,m,xs,ws,r,u.1,rfl,okw.same sa,pos,uni,cw.ok1.sub u (List.mem_of_getElem? eu),fun H1 B1 nb s1 fB hB1 nbK nbV=>?_⟩
   have hD1:=s1 _ _ hDD
   refine hB _ _ _ hD1 ⟨_,_,rfl,fun b o' z=>by rw [upd_ne (ne_of_none z hD)]; exact s1 _ _ (sa _ _ z),upd_same,?_,fun s v hm=>?_⟩
   ·rw [List.map_append,nk,List.take_add_one,ek]
    rfl
   ·have nB:∀ {b:Addr} {kv:List (Key × V)},b ≠ D->H1 b=some (.dK kv)->(upd H1 D (.dK (sK (nv ++ [(u.1,.ref B1)])))) b=some (.dK kv):=fun nb z=>by rw [upd_ne nb]; exact z
    rcases List.mem_append.mp hm with hm | hm
    ·obtain ⟨B2,nb2,rfl,z1,z2,z3⟩:=nf s v hm
     by_cases e:B2=D
     ·subst e
      rw [hDD] at z1
      have e:=HO.dK.inj (Option.some.inj z1)
      have hm':((Sum.inr s:Key),V.ref B2) ∈ sK nb2:=by rw [<-e]; exact List.mem_map.mpr ⟨_,hm,rfl⟩
      obtain ⟨⟨y,u'⟩,h1,h2⟩:=List.mem_map.mp hm'
      cases h2
      obtain ⟨n',e',_⟩:=z3 _ _ h1
      cases e'
     ·exact ⟨B2,nb2,rfl,nB e (s1 _ _ z1),z2,z3⟩
    ·simp only [List.mem_singleton,Prod.mk.injEq] at hm
     obtain ⟨rfl,rfl⟩:=hm
     exact ⟨B1,nb,rfl,nB (fun z=>by rw [z,hDD] at fB; cases fB) hB1,nbK,nbV⟩
  ·rintro D σ H' nv hD ⟨v0,v1,rfl,sa,hDD,nk,nf⟩
   rw [ul,show rs1.length=(rs1.map (·.1)).length by rw [List.length_map],List.take_length] at nk
   exact k H' D nv sa hD hDD nk nf
end
section
variable {P:Program} {w:World} {K:PySem.W.Frag} {mg:Str->Option Value} {base:Heap}
theorem ok_stand_by (h_all:mg "all"=none) {fG:Addr} {fdG:FuncData} (XG:Fn K mg "gets_from" s_gets_from ["case","prices","away"] fG fdG) (GG:FnOk P w K mg base CX0 1 fG fdG ["case","prices","away"] spGetsFrom) {f:Addr} {fd:FuncData} (F:Fun K "stand_by" "stand_by" s_stand_by f fd):FnOk P w K mg base CX0 2 f fd ["case","aways","prices","levy"] spStandBy:=by
 refine F.ok sc_stand_by (fun vs H Q E h=>?_) (fun cdv A outer s H vs Q E hr h=>?_)
 ·obtain ⟨c,m,t,D0,n,xs,ws,rs1,rs2,qs,x,d,lv,rfl,_⟩:=h
  rfl
 ·obtain ⟨c,m,t,D0,n,xs,ws,rs1,rs2,qs,x,d,lv,rfl,cp,aw,k⟩:=h
  have nd:=sc_stand_by.nd
  have hu:=hu_of hr
  have hu64:=hr.units
  have big:100000 < sizeLine:=by decide
  refine ⟨_,(pss_one (ps_ret (pe_callB (call_all_bl rfl) (by rfl) h_all PyProof.Rows.boot_all (pa_cons (pe_comp (N:=["place","charge","case","aways","prices","levy"]) (σ0:=fun σ=>[none,none,some 0,some 1,some 2,some 3].map fun j=>j.bind fun j=>(σ[j]?).join) rfl (CompOk.caught (by rfl) (by decide +kernel) rfl (by decide +kernel) (by intro y hy; simp only [List.mem_cons,List.not_mem_nil,or_false] at hy; rcases hy with rfl | rfl | rfl | rfl <;> rfl)
   (by intro y hy e; simp only [List.mem_cons,List.not_mem_nil,or_false] at hy; rcases hy with rfl | rfl | rfl | rfl | rfl | rfl | rfl | rfl <;> first | exact ⟨_,rfl⟩ | cases e)) (fun σ _=>Carry.of [none,none,some 0,some 1,some 2,some 3] rfl (by
   intro i j x h1 h2
   match i,h1,h2 with
   | 0,_,h2=>cases h2
   | 1,_,h2=>cases h2
   | 2,h1,h2=>cases h1; cases h2; exact ⟨rfl,.inl rfl,.inl rfl⟩
   | 3,h1,h2=>cases h1; cases h2; exact ⟨rfl,.inl rfl,.inl rfl⟩
   | 4,h1,h2=>cases h1; cases h2; exact ⟨rfl,.inl rfl,.inl rfl⟩
   | 5,h1,h2=>cases h1; cases h2; exact ⟨rfl,.inl rfl,.inl rfl⟩
   | n + 6,h1,_=>cases h1)) (pi_tupK K rfl (pe_ix (ix_tupK K rfl) (pv 0) pe_int (fun _ _=>rfl)))
   (fun s2 H C fp=>⟨(pg_tupK K rfl (n:=2) rfl (pgs_cons (pg_name (i:=0) (show (["place","charge","case","aways","prices","levy"]:List Str).Nodup by decide +kernel) rfl (Or.inl rfl)) (pgs_cons (pg_name (i:=1) (show (["place","charge","case","aways","prices","levy"]:List Str).Nodup by decide +kernel) rfl (Or.inl rfl)) pgs_nil))),pts_nil,(pe_cmpR op_le (pe_call GG (hr.mono (by decide)) (by rfl) XG.mg XG.F.kp XG.b .nil pass0 (pa_cons (pv 2) (pa_cons (pv 4) (pa_cons (pe_dget hu (pv 3) (pv 0) (fun _ _=>rfl)) pa_nil)))) (pe_op op_add (pv 1) (pv 5)) (nomark _))⟩)) pa_nil)))),?_⟩
  obtain ⟨us,ht,du⟩:=cp.ex
  obtain ⟨t1,t2,us1,us2,hc,ht1,hd1,ht2,hd2⟩:=cp.cw.ex
  have ul:=rows_len du
  have ul1:=rows_len hd1
  have ul2:=rows_len hd2
  have l1:=cp.cw.l1
  have l2:=cp.cw.l2
  have ql:=cp.ok.len
  refine ⟨_,rfl,c,_,_,_,rfl,rfl,SqT.of hc,rfl,t1,rfl,⟨_,SqT.of ht1⟩,?_⟩
  refine read_map over_tup (xs:=us1) (fun D i σ' H' acc=>∃ v0 v1:Option V,σ'=[v0,v1,some (.ref c),some (.ref D0),some (.ref t),some (.int lv)]/\Same H H'/\H' D=some (.lst acc)/\acc=((rs1.take i).map fun r=>decide (getsF ws r.1 rs2 qs<=r.2 + lv)).map V.bl/\acc.length=i)
   (by (first|lia|omega)) (fun D hD=>⟨_,_,rfl,same_upd hD,upd_same,rfl,rfl⟩) (fun D i σ' H' acc hD ⟨v0,v1,_,sa,hDD,_,al⟩=>⟨SqT.of (sa _ _ ht1),hDD,al⟩) ?_ ?_
  ·rintro D i σ' H' acc x' B hD ex' ⟨v0,v1,rfl,sa,hDD,ea,al⟩ hB
   obtain ⟨r,tt,er,rfl,htt⟩:=dats_row hd1 ex'
   obtain ⟨v,dg,fa⟩:=(aw.same sa).get cp.cw.ok1.nd (List.mem_of_getElem? er)
   refine ⟨tt,_,rfl,SqT.of (sa _ _ htt),rfl,_,_,rfl,_,_,rfl,rfl,?_⟩
   refine ⟨_,rfl,_,rfl,_,rfl,_,rfl,D0,_,rfl,dg,c,m,t,n,xs,ws,rs1,rs2,qs,x,d,v,r.1,rfl,cp.same sa,fa,fun H5 s5=>?_⟩
   refine ⟨_,rfl,_,rfl,_,_,rfl,rfl,_,_,rfl,rfl,?_⟩
   refine hB _ _ _ (s5 _ _ hDD) ⟨_,_,rfl,fun b o e=>by rw [upd_ne (ne_of_none e hD)]; exact s5 _ _ (sa _ _ e),upd_same,?_,by rw [List.length_append,al]; rfl⟩
   rw [ea,List.take_add_one,er,List.map_append,List.map_append]
   rfl
  ·rintro D σ' H' acc hD ⟨v0,v1,rfl,sa,hDD,ea,al⟩
   refine ⟨D,_,rfl,SqL.of (by rw [hDD,ea]),?_⟩
   have e:(((rs1.take us1.length).map fun r=>decide (getsF ws r.1 rs2 qs<=r.2 + lv)).all id)=standB ws rs1 rs2 qs lv:=by
    rw [ul1,List.take_length,List.all_map]
    rfl
   rw [e]
   exact k _ sa
theorem ok_law_gets (h_dict:mg "dict"=none) (h_max:mg "max"=none) {f:Addr} {fd:FuncData} (F:Fun K "_law_gets" "_law_gets" s_law_gets f fd):FnOk P w K mg base CX0 1 f fd ["_law_case_here","_law_away","_law_prices_here","_law_site"] spGetsL:=by
 refine F.ok sc_law_gets (fun vs H Q E h=>?_) (fun cdv A outer s H vs Q E hr h=>?_)
 ·obtain ⟨c,m,t,A0,n,xs,ws,rs1,rs2,qs,x,d,y,rfl,_⟩:=h
  rfl
 ·obtain ⟨c,m,t,A0,n,xs,ws,rs1,rs2,qs,x,d,y,rfl,cp,kn,hy,k⟩:=h
  have nd:=sc_law_gets.nd
  have hu:=hu_of hr
  have hu64:=hr.units
  have big:100000 < sizeLine:=by decide
  refine ⟨_,(pss_cons (ps_set (i:=4) nd rfl (Or.inl rfl) pe_int)
  (pss_cons (ps_for PassesOwn.never rfl (pi_tupK K rfl (pe_ix (ix_tupK K rfl) (pv 0) pe_int (fun _ _=>rfl))) (pg_tupK K rfl rfl (pgs_cons (pg_name (i:=5) nd rfl (Or.inl rfl)) (pgs_cons (pg_name (i:=6) nd rfl (Or.inl rfl)) pgs_nil)))
  (pss_one (ps_set (i:=4) nd rfl (Or.inl rfl) (pe_op op_add (pv 4) (pe_callB (call_max2 rfl) (by rfl) h_max PyProof.Rows.boot_max (pa_cons pe_int (pa_cons (pe_op op_sub (pe_dget hu (pe_callTy (call_dict_pairsT rfl) (by rfl) h_dict PyProof.Rows.boot_dict (pa_cons (pv 2) pa_nil)) (pv 5) (fun _ _=>rfl)) (pe_op op_mul (pv 6) (pe_dget hu (pv 1) (pe_tup (pa_cons (pv 5) (pa_cons (pv 3) pa_nil))) (fun _ _=>rfl)))) pa_nil)))))))
  (pss_one (ps_ret (pv 4))))),?_⟩
  obtain ⟨us,ht,du⟩:=cp.ex
  obtain ⟨t1,t2,us1,us2,hc,ht1,hd1,ht2,hd2⟩:=cp.cw.ex
  have ul:=rows_len du
  have ul1:=rows_len hd1
  have ul2:=rows_len hd2
  have l1:=cp.cw.l1
  have l2:=cp.cw.l2
  have ql:=cp.ok.len
  refine ⟨_,rfl,c,_,_,_,rfl,rfl,SqT.of hc,rfl,t2,rfl,⟨_,SqT.of ht2⟩,for_tupN (xs:=us2) (fun i σ H'=>(∃ v5 v6,σ=[some (.ref c),some (.ref A0),some (.ref t),some (.str y),some (.int (((rs2.zip qs).take i).map fun z=>getF ws y z.1 z.2.2).sum),v5,v6])/\Same H H') ⟨⟨_,_,rfl⟩,Same.refl _⟩ (fun i σ H' _ hP=>SqT.of (hP.2 _ _ ht2)) (fun i v σ H' hv hP rt bk N hN=>?_) (fun σ H' hP=>?_)⟩
  ·obtain ⟨⟨v5,v6,rfl⟩,sa⟩:=hP
   obtain ⟨r,tt,er,rfl,htt⟩:=dats_row hd2 hv
   have rm:=List.mem_of_getElem? er
   have hi:i < qs.length:=by have:=(List.getElem?_eq_some_iff.mp er).1; (first|lia|omega)
   have eq:qs[i]? = some qs[i]:=List.getElem?_eq_getElem hi
   obtain ⟨r',er',rq⟩:=cp.ok.at eq
   rw [er] at er'
   cases er'
   have qnd:(qs.map (·.1)).Nodup:=by rw [cp.ok.nm]; exact cp.cw.ok2.nd
   refine ⟨tt,_,rfl,SqT.of (sa _ _ htt),rfl,_,_,rfl,_,_,rfl,rfl,?_⟩
   refine ⟨_,rfl,_,rfl,t,us,rowP qs,rfl,sa _ _ ht,by unfold rowP; rw [List.length_map]; exact ul,rowP_at (row_dats du fun b ys z=>sa _ _ z),by rw [rowP_keys]; exact qnd,by unfold rowP; rw [List.length_map]; (first|lia|omega),fun B hB=>?_⟩
   have q1:=same_upd (o:=.dK (sK (rowP qs))) hB
   have hBB:(upd H' B (.dK (sK (rowP qs)))) B=some (.dK (sK (rowP qs))):=upd_same
   generalize upd H' B (.dK (sK (rowP qs)))=H1 at q1 hBB
   have g1:=rowP_get hBB qnd (y:=r.1) (by rw [cp.ok.nm]; exact List.mem_map.mpr ⟨r,rm,rfl⟩)
   have ec:costOf qs r.1=qs[i].2:=by rw [rq]; exact costOf_mem qnd (List.mem_of_getElem? eq)
   rw [ec] at g1
   refine ⟨_,rfl,B,_,rfl,g1,_,rfl,_,rfl,_,rfl,_,rfl,(by show 2<=sizeLine; (first|lia|omega)),fun T hT=>?_⟩
   have q2:=same_upd (o:=.tup [.str r.1,.str y]) hT
   have hTT:(upd H1 T (.tup [.str r.1,.str y])) T=some (.tup [.str r.1,.str y]):=upd_same
   generalize upd H1 T (.tup [.str r.1,.str y])=H2 at q2 hTT
   obtain ⟨g2,_,_⟩:=(((kn.same sa).same q1).same q2).get (cp.cw.ok2.sub r rm) hy hTT
   have r4:=cp.few r rm
   have r1:=(cp.cw.ok2.lo r rm).1
   refine ⟨A0,_,rfl,g2,_,_,rfl,rfl,.inl ⟨by (first|lia|omega),by (first|lia|omega)⟩,_,_,rfl,rfl,_,_,rfl,_,_,rfl,rfl,?_⟩
   refine hN _ _ ⟨⟨some (.str r.1),some (.int r.2),?_⟩,sa.trans (q1.trans q2)⟩
   rw [gets_take er eq,List.sum_append,List.sum_singleton,max_if']
   unfold getF
   rfl
  ·obtain ⟨⟨v5,v6,rfl⟩,sa⟩:=hP
   refine ⟨_,rfl,?_⟩
   have e:us2.length=(rs2.zip qs).length:=by rw [zip_len ql]; (first|lia|omega)
   rw [e,List.take_length]
   exact k _ sa
end
section
variable {P:Program} {w:World} {K:PySem.W.Frag} {mg:Str->Option Value} {base:Heap}
theorem ok_law_raised (h_dict:mg "dict"=none) (h_max:mg "max"=none) (h_min:mg "min"=none) {fG:Addr} {fdG:FuncData} (XG:Fn K mg "_law_gets" s_law_gets ["_law_case_here","_law_away","_law_prices_here","_law_site"] fG fdG) (GG:FnOk P w K mg base CX0 1 fG fdG ["_law_case_here","_law_away","_law_prices_here","_law_site"] spGetsL) {f:Addr} {fd:FuncData} (F:Fun K "_law_raised" "_law_raised" s_law_raised f fd):FnOk P w K mg base CX0 2 f fd ["_law_case_here","_law_away","_law_prices_here","_law_levy","_law_at"] spRaisedS:=by
 refine F.ok sc_law_raised (fun vs H Q E h=>?_) (fun cdv A outer s H vs Q E hr h=>?_)
 ·obtain ⟨c,m,t,A0,n,xs,ws,rs1,rs2,qs,x,d,lv,i,rfl,_⟩:=h
  rfl
 ·obtain ⟨c,m,t,A0,n,xs,ws,rs1,rs2,qs,x,d,lv,i,rfl,cp,kn,lv0,lv1,hi,k⟩:=h
  have nd:=sc_law_raised.nd
  have hu:=hu_of hr
  have hu64:=hr.units
  have big:100000 < sizeLine:=by decide
  refine ⟨_,(pss_cons (ps_asg (pe_ix (ix_tupK K rfl) (pv 2) (pv 4) (fun _ _=>rfl)) (pg_tupK K rfl rfl (pgs_cons (pg_name (i:=5) nd rfl (Or.inl rfl)) (pgs_cons (pg_name (i:=6) nd rfl (Or.inl rfl)) pgs_nil))))
  (pss_cons (ps_set (i:=7) nd rfl (Or.inl rfl) (pe_dget hu (pe_callTy (call_dict_pairsT rfl) (by rfl) h_dict PyProof.Rows.boot_dict (pa_cons (pe_ix (ix_tupK K rfl) (pv 0) pe_int (fun _ _=>rfl)) pa_nil)) (pv 5) (fun _ _=>rfl)))
  (pss_cons (ps_set (i:=8) nd rfl (Or.inl rfl) (pe_op (op_catTA K rfl) (pe_op (op_catTA K rfl) (pe_slice (sl_tupK K rfl) (pv 2) po_none (po_some (pv 4))) (pe_tup (pa_cons (pe_tup (pa_cons (pv 5) (pa_cons pe_int pa_nil))) pa_nil))) (pe_slice (sl_tupK K rfl) (pv 2) (po_some (pe_op op_add (pv 4) pe_int)) po_none)))
  (pss_cons (ps_set (i:=9) nd rfl (Or.inl rfl) (pe_lst pa_nil))
  (pss_cons (ps_for PassesOwn.never rfl (pi_tupK K rfl (pe_ix (ix_tupK K rfl) (pv 0) pe_int (fun _ _=>rfl))) (pg_tupK K rfl rfl (pgs_cons (pg_name (i:=10) nd rfl (Or.inl rfl)) (pgs_cons (pg_name (i:=11) nd rfl (Or.inl rfl)) pgs_nil)))
  (pss_one (ps_expr (pe_bm PySem.F.plainAttrs_list PySem.F.slot_list_append PySem.F.type_list_append mt_append (pv 9) (pa_cons (pe_op op_add (pe_op op_sub (pe_op op_add (pv 11) (pv 3)) (pe_call GG (hr.mono (by decide)) (by rfl) XG.mg XG.F.kp XG.b .nil pass0 (pa_cons (pv 0) (pa_cons (pv 1) (pa_cons (pv 8) (pa_cons (pv 10) pa_nil)))))) (pe_op op_mul (pv 7) (pe_dget hu (pv 1) (pe_tup (pa_cons (pv 5) (pa_cons (pv 10) pa_nil))) (fun _ _=>rfl)))) pa_nil)))))
  (pss_one (ps_ret (pe_op (op_catTA K rfl) (pe_op (op_catTA K rfl) (pe_slice (sl_tupK K rfl) (pv 2) po_none (po_some (pv 4))) (pe_tup (pa_cons (pe_tup (pa_cons (pv 5) (pa_cons (pe_callB (call_max2 rfl) (by rfl) h_max PyProof.Rows.boot_max (pa_cons pe_int (pa_cons (pe_callB (call_min_ints rfl) (by rfl) h_min PyProof.Rows.boot_min (pa_cons (pv 9) pa_nil)) pa_nil))) pa_nil))) pa_nil))) (pe_slice (sl_tupK K rfl) (pv 2) (po_some (pe_op op_add (pv 4) pe_int)) po_none))))))))),?_⟩
  obtain ⟨us,ht,du⟩:=cp.ex
  obtain ⟨t1,t2,us1,us2,hc,ht1,hd1,ht2,hd2⟩:=cp.cw.ex
  have ul:=rows_len du
  have ul1:=rows_len hd1
  have ul2:=rows_len hd2
  have l1:=cp.cw.l1
  have l2:=cp.cw.l2
  have ql:=cp.ok.len
  have hi':i < us.length:=by (first|lia|omega)
  obtain ⟨q,tt,eq,e2,htt⟩:=dats_row du (List.getElem?_eq_getElem hi')
  have en:=nmQ_at eq
  have qm:=List.mem_of_getElem? eq
  have at1:atI us (i:Int)=some (.ref tt):=by rw [atI_nat (List.getElem?_eq_getElem hi'),e2]
  obtain ⟨r,er,rq⟩:=cp.ok.at eq
  have rm:=List.mem_of_getElem? er
  refine ⟨_,rfl,_,rfl,t,_,_,_,rfl,rfl,SqT.of ht,at1,tt,_,rfl,SqT.of htt,rfl,_,_,rfl,_,_,rfl,rfl,?_⟩
  refine ⟨_,rfl,c,_,_,_,rfl,rfl,SqT.of hc,rfl,t2,us2,rowP rs2,rfl,ht2,by unfold rowP; rw [List.length_map]; exact ul2,rowP_at hd2,by rw [rowP_keys]; exact cp.cw.ok2.nd,by unfold rowP; rw [List.length_map]; (first|lia|omega),fun B hB=>?_⟩
  have b1:=same_upd (o:=.dK (sK (rowP rs2))) hB
  have hBB:(upd H B (.dK (sK (rowP rs2)))) B=some (.dK (sK (rowP rs2))):=upd_same
  generalize upd H B (.dK (sK (rowP rs2)))=HB at b1 hBB ⊢
  have g1:=rowP_get hBB cp.cw.ok2.nd (y:=q.1) (by rw [<-rq]; exact List.mem_map.mpr ⟨r,rm,rfl⟩)
  have ec:costOf rs2 q.1=r.2:=by rw [<-rq]; exact costOf_mem cp.cw.ok2.nd rm
  rw [ec] at g1
  refine ⟨_,rfl,B,_,rfl,g1,?_⟩
  have htB:=b1 _ _ ht
  refine ⟨_,rfl,_,rfl,_,rfl,slLo htB hi' fun Z1a H1a s1a h1a=>?_⟩
  refine ⟨_,rfl,(by show 2<=sizeLine; (first|lia|omega)),fun T hTa=>⟨(by show 1<=sizeLine; (first|lia|omega)),fun Ya hYa=>?_⟩⟩
  have q1a:=same_upd (o:=.tup [.str q.1,.int 0]) hTa
  have hTTa:(upd H1a T (.tup [.str q.1,.int 0])) T=some (.tup [.str q.1,.int 0]):=upd_same
  generalize upd H1a T (.tup [.str q.1,.int 0])=H2a at q1a hTTa hYa ⊢
  have q2a:=same_upd (o:=.tup [.ref T]) hYa
  have hYYa:(upd H2a Ya (.tup [.ref T])) Ya=some (.tup [.ref T]):=upd_same
  generalize upd H2a Ya (.tup [.ref T])=H3a at q2a hYYa ⊢
  refine catA (K:=K) (q2a _ _ (q1a _ _ h1a)) hYYa (by rw [List.length_take]; show _ + 1<=sizeLine; (first|lia|omega)) fun Z2a H4a s4a h4a=>?_
  have sAa:=s1a.trans (q1a.trans (q2a.trans s4a))
  refine ⟨_,rfl,_,rfl,_,_,rfl,rfl,_,rfl,?_⟩
  dsimp only [tNoPart]
  refine slHi (K:=K) (sAa _ _ htB) hi' fun Z3a H5a s5a h5a=>?_
  refine catA (K:=K) (s5a _ _ h4a) h5a (by rw [List.length_append,List.length_take,List.length_drop]; show _ + 1 + _<=sizeLine; (first|lia|omega)) fun Za H6a s6a h6a=>?_
  have sBa:=s5a.trans s6a
  have salla:=sAa.trans sBa
  have hT6a:=sBa _ _ (s4a _ _ (q2a _ _ hTTa))
  have cpO:CP H6a c m Za n xs ws rs1 rs2 (putQ qs i 0) x d:=((cp.same b1).same salla).put (row_dats du fun b ys z=>salla _ _ (b1 _ _ z)) hi (Int.le_refl _) (by rw [en]; exact hT6a) h6a
  have sO:=b1.trans salla
  refine ⟨(by show 0<=sizeLine; (first|lia|omega)),fun L0 hL0=>?_⟩
  have hyx:q.1 ∈ xs:=(cp.names q qm).1
  have r4:=cp.few r rm
  have r1:=(cp.cw.ok2.lo r rm).1
  refine ⟨_,rfl,c,_,_,_,rfl,rfl,SqT.of (same_upd hL0 _ _ (sO _ _ hc)),rfl,t1,rfl,⟨_,SqT.of (same_upd hL0 _ _ (sO _ _ ht1))⟩,for_tupN (xs:=us1) (fun j σ H'=>(∃ v10 v11,σ=[some (.ref c),some (.ref A0),some (.ref t),some (.int lv),some (.int i),some (.str q.1),some (.int q.2),some (.int r.2),some (.ref Za),some (.ref L0),v10,v11])/\Same H6a H'/\∃ ns:List Int,H' L0=some (.lst (ns.map V.int))/\ns.length=j/\(∀ n ∈ ns,n < 2 ^ 400)/\ns=(rs1.take j).map fun s=>s.2 + lv - getsF ws s.1 rs2 (putQ qs i 0) + r.2 * dst ws s.1 q.1)
   ⟨⟨_,_,rfl⟩,same_upd hL0,[],upd_same,rfl,(fun n hn=>nomatch hn),rfl⟩ (fun j σ H' _ hP=>SqT.of (hP.2.1 _ _ (sO _ _ ht1))) (fun j v σ H' hv hP rt bk N hN=>?_) (fun σ H' hP=>?_)⟩
  ·obtain ⟨⟨v10,v11,rfl⟩,sa,ns,hL,nl,nb,nv⟩:=hP
   obtain ⟨s1,tt1,es,rfl,hts⟩:=dats_row hd1 hv
   have sm:=List.mem_of_getElem? es
   have jl:j < rs1.length:=(List.getElem?_eq_some_iff.mp es).1
   refine ⟨tt1,_,rfl,SqT.of (sa _ _ (sO _ _ hts)),rfl,_,_,rfl,_,_,rfl,rfl,?_⟩
   refine ⟨_,rfl,.inl ⟨rfl,_,SqL.of hL⟩,_,rfl,_,rfl,_,_,rfl,rfl,_,rfl,_,rfl,_,rfl,_,rfl,c,m,Za,A0,n,xs,ws,rs1,rs2,putQ qs i 0,x,d,s1.1,rfl,cpO.same sa,(kn.same sO).same sa,cp.cw.ok1.sub s1 sm,fun H7 s7=>?_⟩
   refine ⟨_,_,rfl,rfl,_,rfl,_,rfl,_,rfl,_,rfl,(by show 2<=sizeLine; (first|lia|omega)),fun T hT=>?_⟩
   have q7:=s7.trans (same_upd (o:=.tup [.str q.1,.str s1.1]) hT)
   have hTT:(upd H7 T (.tup [.str q.1,.str s1.1])) T=some (.tup [.str q.1,.str s1.1]):=upd_same
   generalize upd H7 T (.tup [.str q.1,.str s1.1])=H8 at q7 hTT ⊢
   obtain ⟨g2,d0,d1⟩:=(((kn.same sO).same sa).same q7).get hyx (cp.cw.ok1.sub s1 sm) hTT
   refine ⟨A0,_,rfl,g2,_,_,rfl,rfl,.inl ⟨by (first|lia|omega),by (first|lia|omega)⟩,_,_,rfl,rfl,L0,_,_,rfl,rfl,q7 _ _ hL,by rw [List.length_map]; (first|lia|omega),?_⟩
   refine hN _ _ ⟨⟨_,_,rfl⟩,fun b o z=>by rw [upd_ne (ne_of_none z hL0)]; exact q7 _ _ (sa _ _ z),ns ++ [s1.2 + lv - getsF ws s1.1 rs2 (putQ qs i 0) + r.2 * dst ws s1.1 q.1],by rw [upd_same,List.map_append]; rfl,by rw [List.length_append,nl]; rfl,fun z hz=>?_,by rw [List.take_add_one,es,List.map_append,<-nv]; rfl⟩
   rcases List.mem_append.mp hz with hz | hz
   ·exact nb z hz
   ·rw [List.mem_singleton] at hz
    subst hz
    exact raise_lt (cp.cw.ok1.lo s1 sm).2 lv1 (getsF_pos _ _ _ _) r1 r4 d0 d1
  obtain ⟨⟨v10,v11,rfl⟩,sa,ns,hL,nl,nb,nv⟩:=hP
  have one:=cp.cw.ok1.one
  have nne:ns ≠ []:=fun z=>by rw [z] at nl; rw [<-ul1] at one; simp at nl; (first|lia|omega)
  have htE:=sa _ _ (salla _ _ htB)
  refine ⟨_,rfl,_,rfl,_,rfl,slLo htE hi' fun Z1b H1b s1b h1b=>?_⟩
  refine ⟨_,rfl,_,rfl,L0,ns,rfl,s1b _ _ hL,nne,fun mn hm hle=>⟨_,_,rfl,(by show 2<=sizeLine; (first|lia|omega)),fun T hTb=>⟨(by show 1<=sizeLine; (first|lia|omega)),fun Yb hYb=>?_⟩⟩⟩
  have q1b:=same_upd (o:=.tup [.str q.1,.int (if mn > 0 then mn else 0)]) hTb
  have hTTb:(upd H1b T (.tup [.str q.1,.int (if mn > 0 then mn else 0)])) T=some (.tup [.str q.1,.int (if mn > 0 then mn else 0)]):=upd_same
  generalize upd H1b T (.tup [.str q.1,.int (if mn > 0 then mn else 0)])=H2b at q1b hTTb hYb ⊢
  have q2b:=same_upd (o:=.tup [.ref T]) hYb
  have hYYb:(upd H2b Yb (.tup [.ref T])) Yb=some (.tup [.ref T]):=upd_same
  generalize upd H2b Yb (.tup [.ref T])=H3b at q2b hYYb ⊢
  refine catA (K:=K) (q2b _ _ (q1b _ _ h1b)) hYYb (by rw [List.length_take]; show _ + 1<=sizeLine; (first|lia|omega)) fun Z2b H4b s4b h4b=>?_
  have sAb:=s1b.trans (q1b.trans (q2b.trans s4b))
  refine ⟨_,rfl,_,rfl,_,_,rfl,rfl,_,rfl,?_⟩
  dsimp only [tNoPart]
  refine slHi (K:=K) (sAb _ _ htE) hi' fun Z3b H5b s5b h5b=>?_
  refine catA (K:=K) (s5b _ _ h4b) h5b (by rw [List.length_append,List.length_take,List.length_drop]; show _ + 1 + _<=sizeLine; (first|lia|omega)) fun Zb H6b s6b h6b=>?_
  have sBb:=s5b.trans s6b
  have sallb:=sAb.trans sBb
  have hT6b:=sBb _ _ (s4b _ _ (q2b _ _ hTTb))
  have sF:=b1.trans (salla.trans (sa.trans sallb))
  have p0:(0:Int)<=(if mn > 0 then mn else 0):=by split <;> (first|lia|omega)
  have p1:(if mn > 0 then mn else 0) < (2:Int) ^ 400:=by
   split
   ·exact nb mn hm
   ·exact (by decide +kernel)
  have lo:∀ s ∈ rs1,0<=r.2 * dst ws s.1 q.1:=fun s hs=>Int.mul_nonneg (by (first|lia|omega)) (kn.lo hyx (cp.cw.ok1.sub s hs))
  have room:∀ s ∈ rs1,mn<=s.2 + lv - getsF ws s.1 rs2 (putQ qs i 0) + r.2 * dst ws s.1 q.1:=fun s hs=>hle _ (by rw [nv,ul1,List.take_length]; exact List.mem_map.mpr ⟨s,hs,rfl⟩)
  exact k H6b Zb _ sF p0 p1 (fun hst p' hp'=>stand_put hst er eq rq (cp.ok.lo q qm) lo room hp') ((cp.same sF).put (row_dats du fun b ys z=>sF _ _ z) hi p0 (by rw [en]; exact hT6b) h6b)
theorem ok_law_prices (h_len:mg "len"=none) (h_list:mg "list"=none) (h_range:mg "range"=none) (h_tuple:mg "tuple"=none) {fT:Addr} {fdT:FuncData} (XT:Fn K mg "_law_take" s_law_take ["_law_pen_here","_law_many"] fT fdT) (GT:FnOk P w K mg base CX0 1 fT fdT ["_law_pen_here","_law_many"] spTakeT) {fRA:Addr} {fdRA:FuncData} (XRA:Fn K mg "_law_raised" s_law_raised ["_law_case_here","_law_away","_law_prices_here","_law_levy","_law_at"] fRA fdRA) (GRA:FnOk P w K mg base CX0 2 fRA fdRA ["_law_case_here","_law_away","_law_prices_here","_law_levy","_law_at"] spRaisedS) {f:Addr} {fd:FuncData} (F:Fun K "_law_prices" "_law_prices" s_law_prices f fd):FnOk P w K mg base CX0 3 f fd ["_law_pen_here","_law_case_here","_law_away","_law_levy"] spPricesS:=by
 refine F.ok sc_law_prices (fun vs H Q E h=>?_) (fun cdv A outer s H vs Q E hr h=>?_)
 ·obtain ⟨p,c,m,A0,n,xs,ws,rs1,rs2,x,d,lv,rfl,_⟩:=h
  rfl
 ·obtain ⟨p,c,m,A0,n,xs,ws,rs1,rs2,x,d,lv,rfl,hP,cw,few,kn,lv0,lv1,k⟩:=h
  have nd:=sc_law_prices.nd
  have hu:=hu_of hr
  have hu64:=hr.units
  have big:100000 < sizeLine:=by decide
  refine ⟨_,(pss_cons (ps_set (i:=4) nd rfl (Or.inl rfl) (pe_callTy call_tuple_of (by rfl) h_tuple PyProof.Rows.boot_tuple (pa_cons (pe_comp (N:=["_law_place","_law_many"]) (σ0:=fun _=>[none,none]) rfl (CompOk.plain (by decide +kernel) (by decide +kernel) rfl (by decide +kernel)) (fun σ _=>Carry.none _ _ _ ["_law_place","_law_many"] σ) (pi_tupK K rfl (pe_ix (ix_tupK K rfl) (pv 1) pe_int (fun _ _=>rfl)))
   (fun s2 H C fp=>⟨(pg_tupK K rfl (n:=2) rfl (pgs_cons (pg_name (i:=0) (show (["_law_place","_law_many"]:List Str).Nodup by decide +kernel) rfl (Or.inl rfl)) (pgs_cons (pg_name (i:=1) (show (["_law_place","_law_many"]:List Str).Nodup by decide +kernel) rfl (Or.inl rfl)) pgs_nil))),pts_nil,(pe_tup (pa_cons (pv 0) (pa_cons pe_int pa_nil)))⟩)) pa_nil)))
  (pss_cons (ps_set (i:=5) nd rfl (Or.inl rfl) (pe_callTy (call_list_rng rfl) (by rfl) h_list PyProof.Rows.boot_list (pa_cons (pe_callTy call_rng1 (by rfl) h_range PyProof.Rows.boot_range (pa_cons (pe_callB call_len_seq (by rfl) h_len PySem.boot_len (pa_cons (pv 4) pa_nil)) pa_nil)) pa_nil)))
  (pss_cons (ps_for PassesOwn.never rfl (pi_range1 (by rfl) h_range (pa_cons (pe_callB call_len_seq (by rfl) h_len PySem.boot_len (pa_cons (pv 4) pa_nil)) pa_nil)) (pg_name (i:=6) nd rfl (Or.inl rfl))
  (pss_cons (ps_set (i:=7) nd rfl (Or.inl rfl) (pe_bm PySem.F.plainAttrs_list PySem.F.slot_list_pop PySem.F.type_list_pop mt_popAt (pv 5) (pa_cons (pe_call GT (hr.mono (by decide)) (by rfl) XT.mg XT.F.kp XT.b .nil pass0 (pa_cons (pv 0) (pa_cons (pe_callB call_len_seq (by rfl) h_len PySem.boot_len (pa_cons (pv 5) pa_nil)) pa_nil))) pa_nil)))
  (pss_cons (ps_set (i:=8) nd rfl (Or.inl rfl) (pe_call GRA (hr.mono (by decide)) (by rfl) XRA.mg XRA.F.kp XRA.b .nil pass0 (pa_cons (pv 1) (pa_cons (pv 2) (pa_cons (pv 4) (pa_cons (pv 3) (pa_cons (pv 7) pa_nil)))))))
  (pss_cons (ps_set (i:=4) nd rfl (Or.inl rfl) (pv 8))
  (pss_one (ps_if (pt_cmpR op_eq (pe_call GT (hr.mono (by decide)) (by rfl) XT.mg XT.F.kp XT.b .nil pass0 (pa_cons (pv 0) (pa_cons pe_int pa_nil))) pe_int (nomark _))
  (pss_cons (ps_set (i:=9) nd rfl (Or.inl rfl) (pe_call GT (hr.mono (by decide)) (by rfl) XT.mg XT.F.kp XT.b .nil pass0 (pa_cons (pv 0) (pa_cons (pe_op op_add (pe_ix (ix_tupK K rfl) (pe_ix (ix_tupK K rfl) (pv 8) (pv 7) (fun _ _=>rfl)) pe_int (fun _ _=>rfl)) pe_int) pa_nil))))
  (pss_one (ps_set (i:=4) nd rfl (Or.inl rfl) (pe_op (op_catTA K rfl) (pe_op (op_catTA K rfl) (pe_slice (sl_tupK K rfl) (pv 8) po_none (po_some (pv 7))) (pe_tup (pa_cons (pe_tup (pa_cons (pe_ix (ix_tupK K rfl) (pe_ix (ix_tupK K rfl) (pv 8) (pv 7) (fun _ _=>rfl)) pe_int (fun _ _=>rfl)) (pa_cons (pv 9) pa_nil))) pa_nil))) (pe_slice (sl_tupK K rfl) (pv 8) (po_some (pe_op op_add (pv 7) pe_int)) po_none)))))
  pss_nil))))))
  (pss_one (ps_ret (pv 4)))))),?_⟩
  obtain ⟨t1,t2,us1,us2,hc,ht1,hd1,ht2,hd2⟩:=cw.ex
  have ul2:=rows_len hd2
  have l2:=cw.l2
  have one:=cw.ok2.one
  refine ⟨_,rfl,c,_,_,_,rfl,rfl,SqT.of hc,rfl,t2,rfl,⟨_,SqT.of ht2⟩,?_⟩
  refine read_map over_tup (xs:=us2) (fun D i σ' H' acc=>∃ v0 v1:Option V,σ'=[v0,v1]/\Same H H'/\H' D=some (.lst acc)/\Dats H' acc ((zeroQ (rs2.take i)).map rowD)/\acc.length=i)
   (by (first|lia|omega)) (fun D hD=>⟨_,_,rfl,same_upd hD,upd_same,.nil,rfl⟩) (fun D i σ' H' acc hD ⟨v0,v1,_,sa,hDD,_,al⟩=>⟨SqT.of (sa _ _ ht2),hDD,al⟩) ?_ ?_
  ·rintro D i σ' H' acc x' B hD ex' ⟨v0,v1,rfl,sa,hDD,dd,al⟩ hB
   obtain ⟨r,tt,er,rfl,htt⟩:=dats_row hd2 ex'
   refine ⟨tt,_,rfl,SqT.of (sa _ _ htt),rfl,_,_,rfl,_,_,rfl,rfl,?_⟩
   refine ⟨_,rfl,(by show 2<=sizeLine; (first|lia|omega)),fun T hT=>?_⟩
   have q:=same_upd (o:=.tup [.str r.1,.int 0]) hT
   have hTT:(upd H' T (.tup [.str r.1,.int 0])) T=some (.tup [.str r.1,.int 0]):=upd_same
   generalize upd H' T (.tup [.str r.1,.int 0])=H6 at q hTT ⊢
   have d6:=q _ _ hDD
   refine hB _ _ _ d6 ⟨_,_,rfl,fun b o e=>by rw [upd_ne (ne_of_none e hD)]; exact q _ _ (sa _ _ e),upd_same,?_,by rw [List.length_append,al]; rfl⟩
   unfold zeroQ at dd ⊢
   rw [List.take_add_one,er,List.map_append,List.map_append]
   refine dats_app (row_dats dd fun b ys e=>?_) (.cons (rowD_of (u:=(r.1,0)) (by rw [upd_ne (by intro z; subst z; rw [d6] at hTT; cases hTT)]; exact hTT)) .nil)
   rw [upd_ne (by intro z; subst z; rw [hDD] at e; cases e)]
   exact q _ _ e
  rintro D σ' H1 acc hD ⟨v0,v1,rfl,sa,hDD,dd,al⟩
  rw [ul2,List.take_length] at dd
  refine ⟨D,_,rfl,.inl ⟨SqL.of hDD,fun T0 hT0=>?_⟩⟩
  have b1:=same_upd (o:=.tup acc) hT0
  have hT0':(upd H1 T0 (.tup acc)) T0=some (.tup acc):=upd_same
  have cp0:CP (upd H1 T0 (.tup acc)) c m T0 n xs ws rs1 rs2 (zeroQ rs2) x d:=⟨(cw.same sa).same b1,few,⟨acc,hT0',row_dats dd fun b ys z=>b1 _ _ z⟩,zeroQ_ok rs2⟩
  have s2:=sa.trans b1
  generalize upd H1 T0 (.tup acc)=H2 at b1 hT0' cp0 s2 ⊢
  refine ⟨_,rfl,T0,_,rfl,.inr (SqT.of hT0'),(acc.length:Int),rfl,fun R hR=>⟨R,acc.length,rfl,upd_same,by (first|lia|omega),fun O hO=>?_⟩⟩
  have s3:=(same_upd (o:=.rng 0 (acc.length:Int)) hR).trans (same_upd (o:=.lst ((List.range acc.length).map fun (i:Nat)=>V.int (i:Int))) hO)
  have hOO:(upd (upd H2 R (.rng 0 (acc.length:Int))) O (.lst ((List.range acc.length).map fun (i:Nat)=>V.int (i:Int)))) O=some (.lst ((List.range acc.length).map fun (i:Nat)=>V.int (i:Int))):=upd_same
  have hO2:H2 O=none:=(same_upd (o:=.rng 0 (acc.length:Int)) hR).free hO
  generalize upd (upd H2 R (.rng 0 (acc.length:Int))) O (.lst ((List.range acc.length).map fun (i:Nat)=>V.int (i:Int)))=H3 at s3 hOO ⊢
  have hOH:H O=none:=s2.free hO2
  have nOp:O ≠ p:=hP.ne hOH
  refine ⟨_,rfl,T0,_,rfl,.inr (SqT.of (s3 _ _ hT0')),(acc.length:Int),rfl,by (first|lia|omega),by (first|lia|omega),for_range (n:=(acc.length:Int).toNat) (fun j σ H'=>∃ (v6 v7 v8 v9:Option V) (T:Addr) (qs:List Row) (os:List Nat),σ=[some (.ref p),some (.ref c),some (.ref A0),some (.int lv),some (.ref T),some (.ref O),v6,v7,v8,v9]/\PnAt H' p/\Keep p H H'/\CP H' c m T n xs ws rs1 rs2 qs x d/\Known H' A0 xs ws/\(standB ws rs1 rs2 qs lv=true/\∀ q ∈ qs,q.2 < 2 ^ 400)/\H' O=some (.lst (os.map fun (i:Nat)=>V.int (i:Int)))/\os.length + j=acc.length/\∀ o ∈ os,o < acc.length)
   ⟨_,_,_,_,T0,zeroQ rs2,List.range acc.length,rfl,(hP.same s2).same s3,Keep.of_same (s2.trans s3),cp0.same s3,(kn.same s2).same s3,⟨zero_stand (fun s hs r hr=>Int.mul_nonneg (by have:=(cw.ok2.lo r hr).1; (first|lia|omega)) (kn.lo (cw.ok2.sub r hr) (cw.ok1.sub s hs))) (fun s hs=>(cw.ok1.lo s hs).1) lv0,zeroQ_lt⟩,hOO,by rw [List.length_range]; rfl,fun o ho=>List.mem_range.mp ho⟩ ?_ ?_⟩
  ·rintro j σ H4 hj ⟨v6,v7,v8,v9,T,qs,os,rfl,P4,k4,cp4,kn4,⟨st4,bd4⟩,hO4,ol,ob⟩
   rw [Int.toNat_natCast] at hj
   refine ⟨_,rfl,.inl ⟨rfl,_,SqL.of hO4⟩,_,rfl,_,rfl,O,_,rfl,.inl (SqL.of hO4),p,_,rfl,P4,?_,lt600 ?_,fun e' a1 b1' c1 ea1 eb1=>?_⟩
   ·rw [List.length_map]; (first|lia|omega)
   ·rw [List.length_map]; (first|lia|omega)
   rw [List.length_map] at eb1
   obtain ⟨g,rfl⟩:∃ g:Nat,e'=(g:Int):=⟨e'.toNat,by (first|lia|omega)⟩
   have hg:g < os.length:=by (first|lia|omega)
   have hget:os[g]? = some os[g]:=List.getElem?_eq_getElem hg
   have h5:(upd H4 p (.lst (penL a1 b1' c1))) O=some (.lst (os.map fun (i:Nat)=>V.int (i:Int))):=by rw [upd_ne nOp]; exact hO4
   refine ⟨O,_,_,g,.int (os[g]:Nat),rfl,rfl,h5,by (first|lia|omega),by (first|lia|omega),?_,by rw [List.getElem?_map,hget]; rfl,?_⟩
   ·rw [List.length_map]
    exact (ixN_seq (by show ixN os.length (g:Int)=some g; unfold ixN; rw [if_pos (by (first|lia|omega)),if_pos (by (first|lia|omega))]; rfl)).1
   rw [map_erase]
   obtain ⟨i,ei⟩:∃ i,i=os[g]:=⟨_,rfl⟩
   rw [<-ei]
   have hi0:i < acc.length:=by rw [ei]; exact ob _ (List.getElem_mem hg)
   have ql:=cp4.ok.len
   have hi:i < qs.length:=by (first|lia|omega)
   have P6:PnAt (upd (upd H4 p (.lst (penL a1 b1' c1))) O (.lst ((os.eraseIdx g).map fun (i:Nat)=>V.int (i:Int)))) p:=(PnAt.set a1 b1' c1).other nOp
   have k6:Keep p H (upd (upd H4 p (.lst (penL a1 b1' c1))) O (.lst ((os.eraseIdx g).map fun (i:Nat)=>V.int (i:Int)))):=fun b o hb e=>by rw [upd_ne (ne_of_none e hOH),upd_ne hb]; exact k4 b o hb e
   have tk:∀ b ys,H4 b=some (.tup ys)->(upd (upd H4 p (.lst (penL a1 b1' c1))) O (.lst ((os.eraseIdx g).map fun (i:Nat)=>V.int (i:Int)))) b=some (.tup ys):=fun b ys e=>by
    rw [upd_ne (by intro z; subst z; rw [hO4] at e; cases e),upd_ne (by intro z; subst z; obtain ⟨_,_,_,z⟩:=P4; rw [z] at e; cases e)]
    exact e
   have kn6:Known (upd (upd H4 p (.lst (penL a1 b1' c1))) O (.lst ((os.eraseIdx g).map fun (i:Nat)=>V.int (i:Int)))) A0 xs ws:=by
    obtain ⟨M,cc,⟨kvs,a,b,e⟩,r⟩:=kn4
    refine ⟨M,cc,⟨kvs,?_,b,e⟩,r⟩
    rw [upd_ne (by intro z; subst z; rw [hO4] at a; cases a),upd_ne (by intro z; subst z; obtain ⟨_,_,_,z⟩:=P4; rw [z] at a; cases a)]
    exact a
   have hO6:(upd (upd H4 p (.lst (penL a1 b1' c1))) O (.lst ((os.eraseIdx g).map fun (i:Nat)=>V.int (i:Int)))) O=some (.lst ((os.eraseIdx g).map fun (i:Nat)=>V.int (i:Int))):=upd_same
   have cp6:=cp4.keepT tk
   generalize upd (upd H4 p (.lst (penL a1 b1' c1))) O (.lst ((os.eraseIdx g).map fun (i:Nat)=>V.int (i:Int)))=H6 at P6 k6 kn6 hO6 cp6 ⊢
   have ol6:(os.eraseIdx g).length + (j + 1)=acc.length:=by rw [List.length_eraseIdx,if_pos hg]; (first|lia|omega)
   have ob6:∀ o ∈ os.eraseIdx g,o < acc.length:=fun o ho=>ob o (List.mem_of_mem_eraseIdx ho)
   refine ⟨_,rfl,_,rfl,_,rfl,_,rfl,_,rfl,c,m,T,A0,n,xs,ws,rs1,rs2,qs,x,d,lv,i,rfl,cp6,kn6,lv0,lv1,hi,fun H7 T7 pr s7 pr0 pr1 st7 cp7=>⟨_,rfl,?_⟩⟩
   have P7:=P6.same s7
   have k7:=k6.trans (Keep.of_same s7)
   have kn7:=kn6.same s7
   have hO7:=s7 _ _ hO6
   refine ⟨_,rfl,p,3,rfl,P7,by decide,lt600 (by decide),fun e2 a2 b2 c2 e20 e21=>⟨rfl,_,rfl,?_⟩⟩
   have P8:PnAt (upd H7 p (.lst (penL a2 b2 c2))) p:=PnAt.set _ _ _
   have kk8:Keep p H7 (upd H7 p (.lst (penL a2 b2 c2))):=Keep.upd
   generalize upd H7 p (.lst (penL a2 b2 c2))=H8 at P8 kk8 ⊢
   have k8:=k7.trans kk8
   have cp8:=cp7.keepT (tupK P7 kk8)
   have kn8:=kn7.keep P7 kk8
   have hO8:=kk8 _ _ nOp hO7
   refine ite2 (fun _=>?_) (fun _=>?_)
   ·obtain ⟨us,ht,du⟩:=cp8.ex
    have ul:=rows_len du
    have pl:=putQ_len (p:=pr) hi
    have hi':i < us.length:=by (first|lia|omega)
    obtain ⟨q,tt,eq,e2',htt⟩:=dats_row du (List.getElem?_eq_getElem hi')
    have en:=nmQ_at eq
    rw [nmQ_put hi] at en
    subst en
    have at1:atI us (i:Int)=some (.ref tt):=by rw [atI_nat (List.getElem?_eq_getElem hi'),e2']
    refine ⟨_,rfl,_,rfl,_,rfl,T7,_,_,_,rfl,rfl,SqT.of ht,at1,tt,_,_,_,rfl,rfl,SqT.of htt,rfl,_,_,rfl,rfl,p,pr + 1,rfl,P8,by (first|lia|omega),lt600' pr1,fun e3 a3 b3 c3 e30 e31=>?_⟩
    have P9:PnAt (upd H8 p (.lst (penL a3 b3 c3))) p:=PnAt.set _ _ _
    have kk9:Keep p H8 (upd H8 p (.lst (penL a3 b3 c3))):=Keep.upd
    generalize upd H8 p (.lst (penL a3 b3 c3))=H9 at P9 kk9 ⊢
    have t9:=tupK P8 kk9
    have ht9:=t9 _ _ ht
    have htt9:=t9 _ _ htt
    refine ⟨_,rfl,_,rfl,_,rfl,slLo ht9 hi' fun Z1a H1a s1a h1a=>?_⟩
    refine ⟨_,rfl,_,rfl,T7,_,_,_,rfl,rfl,SqT.of (s1a _ _ ht9),at1,tt,_,_,_,rfl,rfl,SqT.of (s1a _ _ htt9),rfl,_,rfl,(by show 2<=sizeLine; (first|lia|omega)),fun T hTa=>⟨(by show 1<=sizeLine; (first|lia|omega)),fun Ya hYa=>?_⟩⟩
    have q1a:=same_upd (o:=.tup [.str (nmQ qs i).1,.int e3]) hTa
    have hTTa:(upd H1a T (.tup [.str (nmQ qs i).1,.int e3])) T=some (.tup [.str (nmQ qs i).1,.int e3]):=upd_same
    generalize upd H1a T (.tup [.str (nmQ qs i).1,.int e3])=H2a at q1a hTTa hYa ⊢
    have q2a:=same_upd (o:=.tup [.ref T]) hYa
    have hYYa:(upd H2a Ya (.tup [.ref T])) Ya=some (.tup [.ref T]):=upd_same
    generalize upd H2a Ya (.tup [.ref T])=H3a at q2a hYYa ⊢
    refine catA (K:=K) (q2a _ _ (q1a _ _ h1a)) hYYa (by rw [List.length_take]; show _ + 1<=sizeLine; (first|lia|omega)) fun Z2a H4a s4a h4a=>?_
    have sAa:=s1a.trans (q1a.trans (q2a.trans s4a))
    refine ⟨_,rfl,_,rfl,_,_,rfl,rfl,_,rfl,?_⟩
    dsimp only [tNoPart]
    refine slHi (K:=K) (sAa _ _ ht9) hi' fun Z3a H5a s5a h5a=>?_
    refine catA (K:=K) (s5a _ _ h4a) h5a (by rw [List.length_append,List.length_take,List.length_drop]; show _ + 1 + _<=sizeLine; (first|lia|omega)) fun Za H6a s6a h6a=>?_
    have sBa:=s5a.trans s6a
    have salla:=sAa.trans sBa
    have hT6a:=sBa _ _ (s4a _ _ (q2a _ _ hTTa))
    have cpF:CP H6a c m Za n xs ws rs1 rs2 (putQ (putQ qs i pr) i e3) x d:=((cp8.keepT t9).same salla).put (row_dats du fun b ys z=>salla _ _ (t9 _ _ z)) (by (first|lia|omega)) e30 (by rw [nmQ_put hi]; exact hT6a) h6a
    exact ⟨_,_,_,_,Za,_,os.eraseIdx g,rfl,P9.same salla,(k8.trans kk9).trans (Keep.of_same salla),cpF,(kn8.keep P8 kk9).same salla,⟨by rw [putQ_put hi]; exact st7 st4 e3 (by (first|lia|omega)),by rw [putQ_put hi]; exact putQ_lt bd4 (Int.lt_of_le_of_lt (by (first|lia|omega)) pr1)⟩,salla _ _ (kk9 _ _ nOp hO8),ol6,ob6⟩
   ·exact ⟨_,_,_,_,T7,_,os.eraseIdx g,rfl,P8,k8,cp8,kn8,⟨st7 st4 pr (Int.le_refl _),putQ_lt bd4 pr1⟩,hO8,ol6,ob6⟩
  ·rintro σ H4 ⟨v6,v7,v8,v9,T,qs,os,rfl,P4,k4,cp4,kn4,⟨st4,bd4⟩,hO4,ol,ob⟩
   exact ⟨_,rfl,k H4 T qs P4 k4 cp4 st4 bd4⟩
end
section
variable {P:Program} {w:World} {K:PySem.W.Frag} {mg:Str->Option Value} {base:Heap}
theorem ok_is_whole (h_bool:mg "bool"=none) (h_int:mg "int"=none) (h_isinstance:mg "isinstance"=none) {f:Addr} {fd:FuncData} (F:Fun K "is_whole" "is_whole" s_is_whole f fd):FnOk P w K mg base CX0 1 f fd ["thing"] (spWholeX K):=by
 refine F.ok sc_is_whole (fun vs H Q E h=>?_) (fun cdv A outer s H vs Q E hr h=>?_)
 ·obtain ⟨v,b,rfl,_⟩:=h
  rfl
 ·obtain ⟨v,b,rfl,hb,k⟩:=h
  have nd:=sc_is_whole.nd
  have hu:=hu_of hr
  have hu64:=hr.units
  have big:100000 < sizeLine:=by decide
  refine ⟨_,(pss_one (ps_ret (pe_and (pe_callB call_isinst (by rfl) h_isinstance PyProof.Rows.boot_isinstance (pa_cons (pv 0) (pa_cons (pe_bltn (v:=.ty "int") (by rfl) h_int PyProof.Rows.boot_int rfl) pa_nil))) (pe_one (pe_not (pe_callB call_isinst (by rfl) h_isinstance PyProof.Rows.boot_isinstance (pa_cons (pv 0) (pa_cons (pe_bltn (v:=.ty "bool") (by rfl) h_bool PyProof.Rows.boot_bool rfl) pa_nil)))))))),?_⟩
  rcases hb with ⟨n,rfl,rfl⟩ | ⟨rfl,⟨c,rfl⟩ | ⟨ty,t1,t2⟩⟩
  ·refine ⟨_,rfl,_,"int",_,_,rfl,.int _,rfl,_,rfl,?_⟩
   refine iteT ?_
   exact ⟨_,rfl,_,"bool",_,_,rfl,.int _,rfl,_,rfl,k⟩
  ·refine ⟨_,rfl,_,"int",_,_,rfl,.bl _,rfl,_,rfl,?_⟩
   refine iteT ?_
   exact ⟨_,rfl,_,"bool",_,_,rfl,.bl _,rfl,_,rfl,k⟩
  ·refine ⟨_,rfl,_,"int",_,_,rfl,t1,t2,_,rfl,?_⟩
   refine iteF ?_
   exact k
theorem ok_is_whole_from  {fW:Addr} {fdW:FuncData} (XW:Fn K mg "is_whole" s_is_whole ["thing"] fW fdW) (GW:FnOk P w K mg base CX0 1 fW fdW ["thing"] (spWholeX K)) {f:Addr} {fd:FuncData} (F:Fun K "is_whole_from" "is_whole_from" s_is_whole_from f fd):FnOk P w K mg base CX0 2 f fd ["thing","least"] (spWholeFX K):=by
 refine F.ok sc_is_whole_from (fun vs H Q E h=>?_) (fun cdv A outer s H vs Q E hr h=>?_)
 ·obtain ⟨v,l,b,rfl,_⟩:=h
  rfl
 ·obtain ⟨v,l,b,rfl,hb,k⟩:=h
  have nd:=sc_is_whole_from.nd
  have hu:=hu_of hr
  have hu64:=hr.units
  have big:100000 < sizeLine:=by decide
  refine ⟨_,(pss_one (ps_ret (pe_and (pe_call GW (hr.mono (by decide)) (by rfl) XW.mg XW.F.kp XW.b .nil pass0 (pa_cons (pv 0) pa_nil)) (pe_one (pe_cmpR op_ge (pv 0) (pv 1) (nomark _)))))),?_⟩
  rcases hb with ⟨n,rfl,rfl⟩ | ⟨rfl,hb⟩
  ·refine ⟨_,rfl,.int n,true,rfl,.inl ⟨n,rfl,rfl⟩,_,rfl,?_⟩
   refine iteT ?_
   exact ⟨_,rfl,_,rfl,_,_,rfl,rfl,k⟩
  ·refine ⟨_,rfl,v,false,rfl,.inr ⟨rfl,hb⟩,_,rfl,?_⟩
   refine iteF ?_
   exact k
theorem ok_is_row_of (h_isinstance:mg "isinstance"=none) (h_len:mg "len"=none) (h_tuple:mg "tuple"=none) {fI:Addr} {fdI:FuncData} (XI:Fn K mg "is_name" s_is_name ["thing"] fI fdI) (GI:FnOk P w K mg base CX0 1 fI fdI ["thing"] (spName K)) {f:Addr} {fd:FuncData} (F:Fun K "is_row_of" "is_row_of" s_is_row_of f fd):FnOk P w K mg base CX0 2 f fd ["row","place"] (spRowX K):=by
 refine F.ok sc_is_row_of (fun vs H Q E h=>?_) (fun cdv A outer s H vs Q E hr h=>?_)
 ·obtain ⟨v,y,b,rfl,_⟩:=h
  rfl
 ·obtain ⟨v,y,b,rfl,hb,k⟩:=h
  have nd:=sc_is_row_of.nd
  have hu:=hu_of hr
  have hu64:=hr.units
  have big:100000 < sizeLine:=by decide
  refine ⟨_,(pss_one (ps_ret (pe_and (pe_callB call_isinst (by rfl) h_isinstance PyProof.Rows.boot_isinstance (pa_cons (pv 0) (pa_cons (pe_bltn (v:=.ty "tuple") (by rfl) h_tuple PyProof.Rows.boot_tuple rfl) pa_nil))) (pe_and (pe_cmpR op_eq (pe_callB call_len_seq (by rfl) h_len PySem.boot_len (pa_cons (pv 0) pa_nil)) pe_int (nomark _)) (pe_and (pe_call GI (hr.mono (by decide)) (by rfl) XI.mg XI.F.kp XI.b .nil pass0 (pa_cons (pe_ix ix_tup (pv 0) pe_int (fun _ _=>rfl)) pa_nil)) (pe_one (pe_cmpR op_eq (pe_ix ix_tup (pv 0) pe_int (fun _ _=>rfl)) (pv 1) (nomark _)))))))),?_⟩
  rcases hb with ⟨rfl,ty,t1,t2⟩ | ⟨t,us,rfl,ht,hb⟩
  ·refine ⟨_,rfl,_,"tuple",_,_,rfl,t1,t2,_,rfl,?_⟩
   refine iteF ?_
   exact k _ (Same.refl _)
  ·refine ⟨_,rfl,_,"tuple",_,_,rfl,.tup ht,rfl,_,rfl,?_⟩
   refine iteT ?_
   refine ⟨_,rfl,t,_,rfl,.inr (SqT.of ht),rfl,_,rfl,?_⟩
   rcases hb with ⟨hl,rfl⟩ | ⟨a,p,rfl,hb⟩
   ·have e:decide (V.int (us.length:Int)=V.int 2)=false:=decide_eq_false fun z=>hl (by injection z with z; (first|lia|omega))
    rw [e]
    refine iteF ?_
    exact k _ (Same.refl _)
   ·refine iteT ?_
    rcases hb with ⟨nS,rfl⟩ | ⟨s1,rfl,l1,rfl⟩
    ·refine ⟨_,rfl,t,_,_,_,rfl,rfl,SqT.of ht,rfl,_,rfl,.inr ⟨nS,⟨_,rfl,?_⟩⟩⟩
     refine iteF ?_
     exact k _ (Same.refl _)
    ·refine ⟨_,rfl,t,_,_,_,rfl,rfl,SqT.of ht,rfl,_,rfl,.inl ⟨s1,rfl,l1,fun H1 q1=>⟨_,rfl,?_⟩⟩⟩
     cases hn:nameB s1 with
     | false=>
      rw [hn] at k
      refine iteF ?_
      exact k _ q1
     | true=>
      rw [hn] at k
      refine iteT ?_
      refine ⟨_,rfl,t,_,_,_,rfl,rfl,SqT.of (q1 _ _ ht),rfl,_,rfl,rfl,?_⟩
      have e:decide (V.str s1=V.str y)=(true && decide (s1=y)):=by
       by_cases z:s1=y
       ·subst z; simp
       ·rw [decide_eq_false z,decide_eq_false fun e=>z (by injection e)]; rfl
      rw [e]
      exact k _ q1
theorem ok_are_rows (h_all:mg "all"=none) (h_isinstance:mg "isinstance"=none) (h_len:mg "len"=none) (h_tuple:mg "tuple"=none) (h_zip:mg "zip"=none) {fR:Addr} {fdR:FuncData} (XR:Fn K mg "is_row_of" s_is_row_of ["row","place"] fR fdR) (GR:FnOk P w K mg base CX0 2 fR fdR ["row","place"] (spRowX K)) {f:Addr} {fd:FuncData} (F:Fun K "are_rows" "are_rows" s_are_rows f fd):FnOk P w K mg base CX0 3 f fd ["thing","places"] (spRowsX K):=by
 refine F.ok sc_are_rows (fun vs H Q E h=>?_) (fun cdv A outer s H vs Q E hr h=>?_)
 ·obtain ⟨v,L,ys,b,rfl,_⟩:=h
  rfl
 ·obtain ⟨v,L,ys,b,rfl,hL,l100,hb,k⟩:=h
  have nd:=sc_are_rows.nd
  have hu:=hu_of hr
  have hu64:=hr.units
  have big:100000 < sizeLine:=by decide
  refine ⟨_,(pss_cons (ps_if (pw_or (pt_not (pt_val (pe_callB call_isinst (by rfl) h_isinstance PyProof.Rows.boot_isinstance (pa_cons (pv 0) (pa_cons (pe_bltn (v:=.ty "tuple") (by rfl) h_tuple PyProof.Rows.boot_tuple rfl) pa_nil))))) (pw_or1 (pt_cmpR op_ne (pe_callB call_len_seq (by rfl) h_len PySem.boot_len (pa_cons (pv 0) pa_nil)) (pe_callB call_len_seq (by rfl) h_len PySem.boot_len (pa_cons (pv 1) pa_nil)) (nomark _)))).pt
  (pss_one (ps_ret pe_bl))
  pss_nil)
  (pss_one (ps_ret (pe_callB (call_all_bl rfl) (by rfl) h_all PyProof.Rows.boot_all (pa_cons (pe_comp (N:=["row","place"]) (σ0:=fun _=>[none,none]) rfl (CompOk.plain (by decide +kernel) (by decide +kernel) rfl (by decide +kernel)) (fun σ _=>Carry.none _ _ _ ["row","place"] σ) (pi_zip (by rfl) h_zip (pa_cons (pv 0) (pa_cons (pv 1) pa_nil)))
   (fun s2 H C fp=>⟨(pg_tupK K rfl (n:=2) rfl (pgs_cons (pg_name (i:=0) (show (["row","place"]:List Str).Nodup by decide +kernel) rfl (Or.inl rfl)) (pgs_cons (pg_name (i:=1) (show (["row","place"]:List Str).Nodup by decide +kernel) rfl (Or.inl rfl)) pgs_nil))),pts_nil,(pe_call GR (hr.mono (by decide)) (by rfl) XR.mg XR.F.kp XR.b .nil pass0 (pa_cons (pv 0) (pa_cons (pv 1) pa_nil)))⟩)) pa_nil))))),?_⟩
  rcases hb with ⟨rfl,ty,t1,t2⟩ | ⟨t,us,rfl,ht,hb⟩
  ·refine ⟨_,rfl,_,"tuple",_,_,rfl,t1,t2,_,rfl,?_⟩
   exact k _ (Same.refl _)
  ·refine ⟨_,rfl,_,"tuple",_,_,rfl,.tup ht,rfl,_,rfl,?_⟩
   refine iteF ?_
   refine ⟨_,rfl,t,_,rfl,.inr (SqT.of ht),_,rfl,L,_,rfl,.inl (SqL.of hL),rfl,_,rfl,?_⟩
   rcases hb with ⟨hl,rfl⟩ | ⟨hl,bs,bl,rfl,hrw⟩
   ·have el:(!decide (V.int (us.length:Int)=V.int ((ys.map V.str).length:Int)))=true:=by
     rw [List.length_map,decide_eq_false fun z=>hl (by injection z with z; (first|lia|omega))]
     rfl
    rw [el]
    refine iteT ?_
    exact k _ (Same.refl _)
   ·have el:(!decide (V.int (us.length:Int)=V.int ((ys.map V.str).length:Int)))=false:=by rw [List.length_map,hl]; simp
    rw [el]
    refine iteF ?_
    refine ⟨_,rfl,_,rfl,t,L,rfl,⟨_,SqT.of ht⟩,⟨_,SqL.of hL⟩,?_⟩
    refine read_zip (xs:=us) (ys:=ys.map V.str) (by rw [List.length_map]; exact hl) (fun D i σ' H' acc=>∃ v0 v1:Option V,σ'=[v0,v1]/\Same H H'/\H' D=some (.lst acc)/\acc=(bs.take i).map V.bl/\acc.length=i)
     (by (first|lia|omega)) (fun D hD=>⟨_,_,rfl,same_upd hD,upd_same,rfl,rfl⟩) (fun D i σ' H' acc hD ⟨v0,v1,_,sa,hDD,_,al⟩=>⟨SqT.of (sa _ _ ht),SqL.of (sa _ _ hL),hDD,al⟩) ?_ ?_
    ·rintro D i σ' H' acc x' y' T B hD ex ey hT ⟨v0,v1,rfl,sa,hDD,ea,al⟩ hB
     have il:i < us.length:=(List.getElem?_eq_some_iff.mp ex).1
     have ec:bs[i]? = some (bs[i]'(by (first|lia|omega))):=List.getElem?_eq_getElem (by (first|lia|omega))
     have ey':ys[i]? = some (ys[i]'(by (first|lia|omega))):=List.getElem?_eq_getElem (by (first|lia|omega))
     rw [List.getElem?_map,ey'] at ey
     cases ey
     have q1:=same_upd (o:=.tup [x',.str (ys[i]'(by (first|lia|omega)))]) hT
     have hT':(upd H' T (.tup [x',.str (ys[i]'(by (first|lia|omega)))])) T=some (.tup [x',.str (ys[i]'(by (first|lia|omega)))]):=upd_same
     refine ⟨T,_,rfl,SqT.of hT',rfl,_,_,rfl,_,_,rfl,rfl,?_⟩
     refine ⟨_,rfl,_,rfl,x',ys[i]'(by (first|lia|omega)),bs[i]'(by (first|lia|omega)),rfl,((hrw i _ _ _ ex ey' ec).same sa).same q1,fun H5 s5=>?_⟩
     have q5:=q1.trans s5
     refine hB _ _ _ (q5 _ _ hDD) ⟨_,_,rfl,fun b o e=>by rw [upd_ne (ne_of_none e hD)]; exact q5 _ _ (sa _ _ e),upd_same,?_,by rw [List.length_append,al]; rfl⟩
     rw [ea,List.take_add_one,ec,List.map_append]
     rfl
    ·rintro D σ' H' acc hD ⟨v0,v1,rfl,sa,hDD,ea,al⟩
     rw [<-bl,List.take_length] at ea
     exact ⟨D,_,rfl,SqL.of (by rw [hDD,ea]),k _ sa⟩
theorem ok_are_folk_rows  {fA:Addr} {fdA:FuncData} (XA:Fn K mg "are_rows" s_are_rows ["thing","places"] fA fdA) (GA:FnOk P w K mg base CX0 3 fA fdA ["thing","places"] (spRowsX K)) {f:Addr} {fd:FuncData} (F:Fun K "are_folk_rows" "are_folk_rows" s_are_folk_rows f fd):FnOk P w K mg base CX0 4 f fd ["case","thing"] (spFolkX K):=by
 refine F.ok sc_are_folk_rows (fun vs H Q E h=>?_) (fun cdv A outer s H vs Q E hr h=>?_)
 ·obtain ⟨c,m,n,xs,ws,rs1,rs2,x,d,v,b,rfl,_⟩:=h
  rfl
 ·obtain ⟨c,m,n,xs,ws,rs1,rs2,x,d,v,b,rfl,cw,hb,k⟩:=h
  have nd:=sc_are_folk_rows.nd
  have hu:=hu_of hr
  have hu64:=hr.units
  have big:100000 < sizeLine:=by decide
  refine ⟨_,(pss_one (ps_ret (pe_call GA (hr.mono (by decide)) (by rfl) XA.mg XA.F.kp XA.b .nil pass0 (pa_cons (pv 1) (pa_cons (pe_comp (N:=["place","many"]) (σ0:=fun _=>[none,none]) rfl (CompOk.plain (by decide +kernel) (by decide +kernel) rfl (by decide +kernel)) (fun σ _=>Carry.none _ _ _ ["place","many"] σ) (pi_tup (pe_ix ix_tup (pv 0) pe_int (fun _ _=>rfl)))
   (fun s2 H C fp=>⟨(pg_tupK K rfl (n:=2) rfl (pgs_cons (pg_name (i:=0) (show (["place","many"]:List Str).Nodup by decide +kernel) rfl (Or.inl rfl)) (pgs_cons (pg_name (i:=1) (show (["place","many"]:List Str).Nodup by decide +kernel) rfl (Or.inl rfl)) pgs_nil))),pts_nil,(pv 0)⟩)) pa_nil))))),?_⟩
  obtain ⟨t1,t2,us1,us2,hc,ht1,hd1,ht2,hd2⟩:=cw.ex
  have ul:=rows_len hd2
  have l2:=cw.l2
  refine ⟨_,rfl,_,rfl,c,_,_,_,rfl,rfl,SqT.of hc,rfl,t2,rfl,⟨_,SqT.of ht2⟩,?_⟩
  refine read_map over_tup (xs:=us2) (fun D i σ' H' acc=>∃ v0 v1:Option V,σ'=[v0,v1]/\Same H H'/\H' D=some (.lst acc)/\acc=((rs2.map (·.1)).take i).map V.str/\acc.length=i)
   (by (first|lia|omega)) (fun D hD=>⟨_,_,rfl,same_upd hD,upd_same,rfl,rfl⟩) (fun D i σ' H' acc hD ⟨v0,v1,_,sa,hDD,_,al⟩=>⟨SqT.of (sa _ _ ht2),hDD,al⟩) ?_ ?_
  ·rintro D i σ' H' acc x' B hD ex ⟨v0,v1,rfl,sa,hDD,ea,al⟩ hB
   obtain ⟨q,tt,eq,rfl,htt⟩:=dats_row hd2 ex
   refine ⟨tt,_,rfl,SqT.of (sa _ _ htt),rfl,_,_,rfl,_,_,rfl,rfl,?_⟩
   refine ⟨_,rfl,hB _ _ _ hDD ⟨_,_,rfl,fun b o e=>by rw [upd_ne (ne_of_none e hD)]; exact sa _ _ e,upd_same,?_,by rw [List.length_append,al]; rfl⟩⟩
   rw [ea,List.take_add_one,List.getElem?_map,eq,List.map_append]
   rfl
  ·rintro D σ' H' acc hD ⟨v0,v1,rfl,sa,hDD,ea,al⟩
   refine ⟨v,D,rs2.map (·.1),b,rfl,?_,by rw [List.length_map]; (first|lia|omega),hb.same sa,fun H2 s2=>k _ (sa.trans s2)⟩
   have e:us2.length=(rs2.map (·.1)).length:=by rw [List.length_map]; exact ul
   rw [hDD,ea,e,List.take_length]
theorem ok_are_prices (h_all:mg "all"=none) {fO:Addr} {fdO:FuncData} (XO:Fn K mg "are_folk_rows" s_are_folk_rows ["case","thing"] fO fdO) (GO:FnOk P w K mg base CX0 4 fO fdO ["case","thing"] (spFolkX K)) {fF:Addr} {fdF:FuncData} (XF:Fn K mg "is_whole_from" s_is_whole_from ["thing","least"] fF fdF) (GF:FnOk P w K mg base CX0 2 fF fdF ["thing","least"] (spWholeFX K)) {f:Addr} {fd:FuncData} (F:Fun K "are_prices" "are_prices" s_are_prices f fd):FnOk P w K mg base CX0 5 f fd ["case","thing"] (spPrX K):=by
 refine F.ok sc_are_prices (fun vs H Q E h=>?_) (fun cdv A outer s H vs Q E hr h=>?_)
 ·obtain ⟨c,m,n,xs,ws,rs1,rs2,x,d,v,b,rfl,_⟩:=h
  rfl
 ·obtain ⟨c,m,n,xs,ws,rs1,rs2,x,d,v,b,rfl,cw,hb,k⟩:=h
  have nd:=sc_are_prices.nd
  have hu:=hu_of hr
  have hu64:=hr.units
  have big:100000 < sizeLine:=by decide
  refine ⟨_,(pss_one (ps_ret (pe_and (pe_call GO (hr.mono (by decide)) (by rfl) XO.mg XO.F.kp XO.b .nil pass0 (pa_cons (pv 0) (pa_cons (pv 1) pa_nil))) (pe_one (pe_callB (call_all_bl rfl) (by rfl) h_all PyProof.Rows.boot_all (pa_cons (pe_comp (N:=["place","price"]) (σ0:=fun _=>[none,none]) rfl (CompOk.plain (by decide +kernel) (by decide +kernel) rfl (by decide +kernel)) (fun σ _=>Carry.none _ _ _ ["place","price"] σ) (pi_tup (pv 1))
   (fun s2 H C fp=>⟨(pg_tupK K rfl (n:=2) rfl (pgs_cons (pg_name (i:=0) (show (["place","price"]:List Str).Nodup by decide +kernel) rfl (Or.inl rfl)) (pgs_cons (pg_name (i:=1) (show (["place","price"]:List Str).Nodup by decide +kernel) rfl (Or.inl rfl)) pgs_nil))),pts_nil,(pe_call GF (hr.mono (by decide)) (by rfl) XF.mg XF.F.kp XF.b .nil pass0 (pa_cons (pv 1) (pa_cons pe_int pa_nil)))⟩)) pa_nil)))))),?_⟩
  rcases hb with ⟨rfl,hb⟩ | ⟨t,us,rfl,ht,hl,bs,bl,rfl,hrw⟩
  ·refine ⟨_,rfl,_,rfl,c,m,n,xs,ws,rs1,rs2,x,d,v,false,rfl,cw,hb,fun H1 s1=>⟨_,rfl,?_⟩⟩
   refine iteF ?_
   exact k _ s1
  ·have l2:=cw.l2
   rw [List.length_map] at hl
   have rows:RowsIs K H (.ref t) (rs2.map (·.1)) true:=.inr ⟨t,us,rfl,ht,.inr ⟨by rw [List.length_map]; exact hl,us.map fun _=>true,by rw [List.length_map],by rw [List.all_map]; exact (List.all_eq_true.mpr fun _ _=>rfl).symm,fun i u y c' a1 a2 a3=>by
    have il:i < us.length:=(List.getElem?_eq_some_iff.mp a1).1
    obtain ⟨tt,p,rfl,htt,_⟩:=hrw i u y (bs[i]'(by (first|lia|omega))) a1 a2 (List.getElem?_eq_getElem (by (first|lia|omega)))
    rw [List.getElem?_map,a1] at a3
    cases a3
    rw [List.getElem?_map] at a2
    cases er:rs2[i]? with
    | none=>rw [er] at a2; cases a2
    | some r=>
     rw [er] at a2
     cases a2
     exact RowIs.right (cw.map.at'.nm _ (cw.ok2.sub r (List.mem_of_getElem? er))) htt⟩⟩
   refine ⟨_,rfl,_,rfl,c,m,n,xs,ws,rs1,rs2,x,d,.ref t,true,rfl,cw,rows,fun H1 s1=>⟨_,rfl,?_⟩⟩
   refine iteT ?_
   refine ⟨_,rfl,t,rfl,⟨_,SqT.of (s1 _ _ ht)⟩,?_⟩
   refine read_map over_tup (xs:=us) (fun D i σ' H' acc=>∃ v0 v1:Option V,σ'=[v0,v1]/\Same H1 H'/\H' D=some (.lst acc)/\acc=(bs.take i).map V.bl/\acc.length=i)
    (by (first|lia|omega)) (fun D hD=>⟨_,_,rfl,same_upd hD,upd_same,rfl,rfl⟩) (fun D i σ' H' acc hD ⟨v0,v1,_,sa,hDD,_,al⟩=>⟨SqT.of (sa _ _ (s1 _ _ ht)),hDD,al⟩) ?_ ?_
   ·rintro D i σ' H' acc x' B hD ex ⟨v0,v1,rfl,sa,hDD,ea,al⟩ hB
    have il:i < us.length:=(List.getElem?_eq_some_iff.mp ex).1
    have ec:bs[i]? = some (bs[i]'(by (first|lia|omega))):=List.getElem?_eq_getElem (by (first|lia|omega))
    obtain ⟨tt,p,rfl,htt,np⟩:=hrw i x' ((rs2[i]'(by (first|lia|omega))).1) (bs[i]'(by (first|lia|omega))) ex (by rw [List.getElem?_map,List.getElem?_eq_getElem (by (first|lia|omega))]; rfl) ec
    refine ⟨tt,_,rfl,SqT.of (sa _ _ (s1 _ _ htt)),rfl,_,_,rfl,_,_,rfl,rfl,?_⟩
    refine ⟨_,rfl,p,0,bs[i]'(by (first|lia|omega)),rfl,(np.same s1).same sa,hB _ _ _ hDD ⟨_,_,rfl,fun b o e=>by rw [upd_ne (ne_of_none e hD)]; exact sa _ _ e,upd_same,?_,by rw [List.length_append,al]; rfl⟩⟩
    rw [ea,List.take_add_one,ec,List.map_append]
    rfl
   ·rintro D σ' H' acc hD ⟨v0,v1,rfl,sa,hDD,ea,al⟩
    rw [<-bl,List.take_length] at ea
    exact ⟨D,_,rfl,SqL.of (by rw [hDD,ea]),k _ (s1.trans sa)⟩
theorem ok_is_levy  {fF:Addr} {fdF:FuncData} (XF:Fn K mg "is_whole_from" s_is_whole_from ["thing","least"] fF fdF) (GF:FnOk P w K mg base CX0 2 fF fdF ["thing","least"] (spWholeFX K)) {f:Addr} {fd:FuncData} (F:Fun K "is_levy" "is_levy" s_is_levy f fd):FnOk P w K mg base CX0 3 f fd ["case","thing"] (spLevyX K):=by
 refine F.ok sc_is_levy (fun vs H Q E h=>?_) (fun cdv A outer s H vs Q E hr h=>?_)
 ·obtain ⟨c,m,n,xs,ws,rs1,rs2,x,d,v,b,rfl,_⟩:=h
  rfl
 ·obtain ⟨c,m,n,xs,ws,rs1,rs2,x,d,v,b,rfl,cw,hb,k⟩:=h
  have nd:=sc_is_levy.nd
  have hu:=hu_of hr
  have hu64:=hr.units
  have big:100000 < sizeLine:=by decide
  refine ⟨_,(pss_one (ps_ret (pe_and (pe_call GF (hr.mono (by decide)) (by rfl) XF.mg XF.F.kp XF.b .nil pass0 (pa_cons (pv 1) (pa_cons pe_int pa_nil))) (pe_one (pe_or (pe_cmp (pc_notN (pe_ix ix_tup (pv 0) pe_int (fun _ _=>rfl)))) (pe_one (pe_cmpR op_eq (pv 1) pe_int (nomark _)))))))),?_⟩
  obtain ⟨t1,t2,us1,us2,hc,ht1,hd1,ht2,hd2⟩:=cw.ex
  rcases hb with ⟨rfl,hb⟩ | ⟨lv,rfl,l0,rfl⟩
  ·refine ⟨_,rfl,v,0,false,rfl,hb,_,rfl,?_⟩
   refine iteF ?_
   exact k
  ·refine ⟨_,rfl,.int lv,0,true,rfl,.inl ⟨lv,rfl,(decide_eq_true l0).symm⟩,_,rfl,?_⟩
   refine iteT ?_
   refine ⟨_,rfl,c,_,_,_,rfl,rfl,SqT.of hc,rfl,_,rfl,?_⟩
   rcases cw.lim with ⟨rfl,_⟩ | ⟨j,rfl,_⟩
   ·refine iteF ?_
    refine ⟨_,rfl,rfl,?_⟩
    have e:decide (V.int lv=V.int 0)=(!decide (V.non=V.non) || decide (lv=0)):=by
     rw [decide_eq_true (rfl:V.non=V.non)]
     by_cases z:lv=0
     ·subst z; simp
     ·rw [decide_eq_false z,decide_eq_false fun e=>z (by injection e)]; rfl
    rw [e]
    exact k
   ·refine iteT ?_
    have e:(!decide (V.int j=V.non) || decide (lv=0))=true:=by
     have ne:¬ V.int j=V.non:=by intro e; cases e
     rw [decide_eq_false ne]
     rfl
    rw [e] at k
    exact k
theorem ok_stand  {fP:Addr} {fdP:FuncData} (XP:Fn K mg "are_prices" s_are_prices ["case","thing"] fP fdP) (GP:FnOk P w K mg base CX0 5 fP fdP ["case","thing"] (spPrX K)) {fL:Addr} {fdL:FuncData} (XL:Fn K mg "is_levy" s_is_levy ["case","thing"] fL fdL) (GL:FnOk P w K mg base CX0 3 fL fdL ["case","thing"] (spLevyX K)) {fSF:Addr} {fdSF:FuncData} (XSF:Fn K mg "site_fars" s_site_fars ["case"] fSF fdSF) (GSF:FnOk P w K mg base CX0 4 fSF fdSF ["case"] spSiteFars) {fB:Addr} {fdB:FuncData} (XB:Fn K mg "stand_by" s_stand_by ["case","aways","prices","levy"] fB fdB) (GB:FnOk P w K mg base CX0 2 fB fdB ["case","aways","prices","levy"] spStandBy) {f:Addr} {fd:FuncData} (F:Fun K "stand" "stand" s_stand f fd):FnOk P w K mg base CX0 6 f fd ["case","prices","levy"] (spStandX K):=by
 refine F.ok sc_stand (fun vs H Q E h=>?_) (fun cdv A outer s H vs Q E hr h=>?_)
 ·obtain ⟨c,m,n,xs,ws,rs1,rs2,x,d,v,l,rfl,_⟩:=h
  rfl
 ·obtain ⟨c,m,n,xs,ws,rs1,rs2,x,d,v,l,rfl,cw,k⟩:=h
  have nd:=sc_stand.nd
  have hu:=hu_of hr
  have hu64:=hr.units
  have big:100000 < sizeLine:=by decide
  refine ⟨_,(pss_cons (ps_if (pw_or (pt_not (pt_val (pe_call GP (hr.mono (by decide)) (by rfl) XP.mg XP.F.kp XP.b .nil pass0 (pa_cons (pv 0) (pa_cons (pv 1) pa_nil))))) (pw_or1 (pt_not (pt_val (pe_call GL (hr.mono (by decide)) (by rfl) XL.mg XL.F.kp XL.b .nil pass0 (pa_cons (pv 0) (pa_cons (pv 2) pa_nil))))))).pt
  (pss_one (ps_ret pe_bl))
  pss_nil)
  (pss_one (ps_ret (pe_call GB (hr.mono (by decide)) (by rfl) XB.mg XB.F.kp XB.b .nil pass0 (pa_cons (pv 0) (pa_cons (pe_call GSF (hr.mono (by decide)) (by rfl) XSF.mg XSF.F.kp XSF.b .nil pass0 (pa_cons (pv 0) pa_nil)) (pa_cons (pv 1) (pa_cons (pv 2) pa_nil)))))))),?_⟩
  rcases k with ⟨hb,k⟩ | ⟨t,qs,rfl,cp,k⟩
  ·refine ⟨_,rfl,_,rfl,c,m,n,xs,ws,rs1,rs2,x,d,v,false,rfl,cw,hb,fun H1 s1=>⟨_,rfl,?_⟩⟩
   exact k _ s1
  ·refine ⟨_,rfl,_,rfl,c,m,n,xs,ws,rs1,rs2,x,d,.ref t,true,rfl,cw,cp.prices,fun H1 s1=>⟨_,rfl,?_⟩⟩
   refine iteF ?_
   rcases k with ⟨hb,k⟩ | ⟨lv,rfl,hb,k⟩
   ·refine ⟨_,rfl,_,rfl,c,m,n,xs,ws,rs1,rs2,x,d,l,false,rfl,cw.same s1,hb.same s1,_,rfl,?_⟩
    exact k _ s1
   ·refine ⟨_,rfl,_,rfl,c,m,n,xs,ws,rs1,rs2,x,d,.int lv,true,rfl,cw.same s1,hb.same s1,_,rfl,?_⟩
    refine iteF ?_
    refine ⟨_,rfl,_,rfl,c,m,n,xs,ws,rs1,rs2,x,d,rfl,cw.same s1,fun H2 D nv s2 hD hDD ks fs=>?_⟩
    have s12:=s1.trans s2
    exact ⟨_,rfl,_,rfl,c,m,t,D,n,xs,ws,rs1,rs2,qs,x,d,lv,rfl,cp.same s12,⟨nv,hDD,ks,fs⟩,fun H3 s3=>k _ (s12.trans s3)⟩
end
section
variable {P:Program} {w:World} {K:PySem.W.Frag} {mg:Str->Option Value} {base:Heap}
theorem ok_law_odd_prices (h_len:mg "len"=none) (h_list:mg "list"=none) (h_str:mg "str"=none) {f:Addr} {fd:FuncData} (F:Fun K "_law_odd_prices" "_law_odd_prices" s_law_odd_prices f fd):FnOk P w K mg base CX0 1 f fd ["_law_prices_here","_law_at"] (spOddP K):=by
 refine F.ok sc_law_odd_prices (fun vs H Q E h=>?_) (fun cdv A outer s H vs Q E hr h=>?_)
 ·obtain ⟨t,i,us,qs,rfl,_⟩:=h
  rfl
 ·obtain ⟨t,i,us,qs,rfl,ht0,du0,hi,l30,nd1,nm,nz,lo,b400,k⟩:=h
  have nd:=sc_law_odd_prices.nd
  have hu:=hu_of hr
  have hu64:=hr.units
  have big:100000 < sizeLine:=by decide
  have ul:=rows_len du0
  have hi':i < us.length:=by (first|lia|omega)
  have un:1<=us.length:=by (first|lia|omega)
  have une:us ≠ []:=fun e=>by rw [e] at un; simp at un
  obtain ⟨q,tt,eq,e2,htt⟩:=dats_row du0 (List.getElem?_eq_getElem hi')
  have qm:=List.mem_of_getElem? eq
  have q0:=lo q qm
  have q400:=b400 q qm
  have zno:false=(nameB (Str.ofString "zzzzzz") && decide (Str.ofString "zzzzzz"=q.1)):=by rw [decide_eq_false fun e=>nz q qm e.symm,Bool.and_false]
  have nw1:¬ (HT.sIx us.length 0 none=0/\HT.sIx us.length us.length (some (-1))=us.length):=fun z=>by
   have:=z.2
   unfold HT.sIx at this
   simp only [] at this
   split at this <;> (first|lia|omega)
  have nw2:¬ (HT.sIx us.length 0 (some 1)=0/\HT.sIx us.length us.length none=us.length):=fun z=>by
   have:=z.1
   rw [show (1:Int)=((1:Nat):Int) by rfl,HT.sIx_nat] at this
   (first|lia|omega)
  have nw3:1 < us.length->¬ (HT.sIx us.length 0 none=0/\HT.sIx us.length us.length (some 1)=us.length):=fun h1 z=>by
   have:=z.2
   rw [show (1:Int)=((1:Nat):Int) by rfl,HT.sIx_nat] at this
   (first|lia|omega)
  obtain ⟨Φ,eΦ⟩:∃ Φ:St->Hp->Prop,Φ=fun σ H=>(∃ f4 f5 f6:Option V,σ=[some (.ref t),some (.int i),some (.str q.1),some (.int q.2),f4,f5,f6])/\H t=some (.tup us)/\Dats H us (qs.map rowD):=⟨_,rfl⟩
  have hΦ:∀ {σ:St} {H:Hp},Φ σ H->(∃ f4 f5 f6:Option V,σ=[some (.ref t),some (.int i),some (.str q.1),some (.int q.2),f4,f5,f6])/\H t=some (.tup us)/\Dats H us (qs.map rowD):=fun h=>by rw [eΦ] at h; exact h
  have mkΦ:∀ {H:Hp} (f4 f5 f6:Option V),H t=some (.tup us)->Dats H us (qs.map rowD)->Φ [some (.ref t),some (.int i),some (.str q.1),some (.int q.2),f4,f5,f6] H:=fun f4 f5 f6 a b=>by rw [eΦ]; exact ⟨⟨f4,f5,f6,rfl⟩,a,b⟩
  have row_datsR:∀ {H H':Hp} {vs:List V} {ds:List PyData},Dats H vs ds->Same H H'->Dats H' vs ds:=fun h s=>h.mono fun a o e _=>s a o e
  have stΦ:Stay Φ:=fun σ H H' h s=>by
   obtain ⟨⟨f4,f5,f6,rfl⟩,a,b⟩:=hΦ h
   exact mkΦ _ _ _ (s _ _ a) (row_datsR b s)
  have wrong:∀ {H H':Hp} {p:Addr} {vs:List V} {zs:List Row},H' p=some (.tup vs)->Dats H vs (zs.map rowD)->(∀ q ∈ zs,nameB q.1=true)->(zs.length=qs.length->False)->Same H H'->PricesIs K H' (.ref p) (qs.map (·.1)) false:=fun h1 h2 h3 h4 s=>rows_wrong h1 (row_datsR h2 s) h3 fun e=>h4 (by have:=congrArg List.length e; rwa [List.length_map,List.length_map] at this)
  clear eΦ
  refine ⟨_,(pss_cons (ps_asg (pe_ix (ix_tupK K rfl) (pv 0) (pv 1) (fun _ _=>rfl)) (pg_tupK K rfl rfl (pgs_cons (pg_name (i:=2) nd rfl (Or.inl rfl)) (pgs_cons (pg_name (i:=3) nd rfl (Or.inl rfl)) pgs_nil))))
  (pss_cons (ps_set (i:=4) nd rfl (Or.inl rfl) (g_listF (by decide) (pa_good stΦ (PricesIs.stay (K:=K) (ys:=qs.map (·.1)) (b:=false))
    (g_dat pe_non (fun H=>.non) (fun H h=>odd_no (h.noTup fun s e=>by cases e)))
    (pa_good stΦ (PricesIs.stay (K:=K) (ys:=qs.map (·.1)) (b:=false))
    (g_dat pe_int (fun H=>.int 0) (fun H h=>odd_no (h.noTup fun s e=>by cases e)))
    (pa_good stΦ (PricesIs.stay (K:=K) (ys:=qs.map (·.1)) (b:=false))
    (g_dat pe_str (fun H=>.str "prices") (fun H h=>odd_no (h.noTup fun s e=>by cases e)))
    (pa_good stΦ (PricesIs.stay (K:=K) (ys:=qs.map (·.1)) (b:=false))
    ((pe_lst pa_nil).weak (fun σ H Q ⟨g,k⟩=>by exact ⟨Nat.zero_le _,fun p hp=>k _ _ (same_upd hp) (odd_no (noTup_list upd_same))⟩))
    (pa_good stΦ (PricesIs.stay (K:=K) (ys:=qs.map (·.1)) (b:=false))
    ((pe_dnewK).weak (fun σ H Q ⟨g,k⟩=>by exact fun p hp=>k _ _ (same_upd hp) (odd_no (noTup_dict upd_same))))
    (pa_good stΦ (PricesIs.stay (K:=K) (ys:=qs.map (·.1)) (b:=false))
    ((pe_tup pa_nil).weak (fun σ H Q ⟨g,k⟩=>by exact ⟨Nat.zero_le _,fun p hp=>k _ _ (same_upd hp) (wrong (zs:=[]) (H:=H) upd_same .nil (fun q hq=>nomatch hq) (fun e=>by simp at e; (first|lia|omega)) (same_upd hp))⟩))
    (pa_good stΦ (PricesIs.stay (K:=K) (ys:=qs.map (·.1)) (b:=false))
    ((pe_callTy call_list_of (by rfl) h_list PyProof.Rows.boot_list (pa_cons (pv 0) pa_nil)).weak (fun σ H Q ⟨g,k⟩=>by obtain ⟨⟨f4,f5,f6,rfl⟩,ht,du⟩:=hΦ g; exact ⟨_,rfl,t,us,rfl,.inr (SqT.of ht),fun l hl=>k _ _ (same_upd hl) (odd_no (noTup_list upd_same))⟩))
    (pa_good stΦ (PricesIs.stay (K:=K) (ys:=qs.map (·.1)) (b:=false))
    ((pe_slice (sl_tupK K rfl) (pv 0) po_none (po_some (pe_un un_neg pe_int))).weak (fun σ H Q ⟨g,k⟩=>by obtain ⟨⟨f4,f5,f6,rfl⟩,ht,du⟩:=hΦ g; refine ⟨_,rfl,_,rfl,_,rfl,t,us,rfl,SqT.of ht,nw1,fun p hp=>?_⟩; rw [cut_last us un]; exact k _ _ (same_upd hp) (wrong (zs:=qs.take (us.length - 1)) upd_same (by rw [List.map_take]; exact dats_take' _ du) (fun q hq=>nm q (List.mem_of_mem_take hq)) (fun e=>by rw [List.length_take] at e; (first|lia|omega)) (same_upd hp))))
    (pa_good stΦ (PricesIs.stay (K:=K) (ys:=qs.map (·.1)) (b:=false))
    ((pe_slice (sl_tupK K rfl) (pv 0) (po_some pe_int) po_none).weak (fun σ H Q ⟨g,k⟩=>by obtain ⟨⟨f4,f5,f6,rfl⟩,ht,du⟩:=hΦ g; refine ⟨_,rfl,_,rfl,?_⟩; dsimp only [tNoPart]; refine ⟨t,us,rfl,SqT.of ht,nw2,fun p hp=>?_⟩; rw [cut_one us un]; exact k _ _ (same_upd hp) (wrong (zs:=qs.drop 1) upd_same (by rw [List.map_drop]; exact dats_drop' _ du) (fun q hq=>nm q (List.mem_of_mem_drop hq)) (fun e=>by rw [List.length_drop] at e; (first|lia|omega)) (same_upd hp))))
    (pa_good stΦ (PricesIs.stay (K:=K) (ys:=qs.map (·.1)) (b:=false))
    ((pe_op (op_catTA K rfl) (pv 0) (pe_slice (sl_tupA K rfl) (pv 0) (po_some (pe_un un_neg pe_int)) po_none)).weak (fun σ H Q ⟨g,k⟩=>by obtain ⟨⟨f4,f5,f6,rfl⟩,ht,du⟩:=hΦ g; refine ⟨_,rfl,_,rfl,_,rfl,_,rfl,?_⟩; dsimp only [tNoPart]; exact ⟨t,us,rfl,SqT.of ht,fun _=>catA (K:=K) ht ht (by (first|lia|omega)) fun T H' s' hT=>k _ _ s' (wrong (zs:=qs ++ qs) hT (by rw [List.map_append]; exact dats_app du du) (fun q hq=>(List.mem_append.mp hq).elim (nm q) (nm q)) (fun e=>by rw [List.length_append] at e; (first|lia|omega)) s'),fun _ p hp=>by rw [cut_end us un]; exact catA (K:=K) (same_upd hp _ _ ht) upd_same (by rw [List.length_drop]; (first|lia|omega)) fun T H' s' hT=>k _ _ ((same_upd hp).trans s') (wrong (zs:=qs ++ qs.drop (us.length - 1)) hT (by rw [List.map_append,List.map_drop]; exact dats_app du (dats_drop' _ du)) (fun q hq=>(List.mem_append.mp hq).elim (nm q) fun h=>nm q (List.mem_of_mem_drop h)) (fun e=>by rw [List.length_append,List.length_drop] at e; (first|lia|omega)) ((same_upd hp).trans s'))⟩))
    (pa_good stΦ (PricesIs.stay (K:=K) (ys:=qs.map (·.1)) (b:=false))
    ((pe_op op_dblT (pv 0) pe_int).weak (fun σ H Q ⟨g,k⟩=>by obtain ⟨⟨f4,f5,f6,rfl⟩,ht,du⟩:=hΦ g; refine ⟨_,rfl,t,us,rfl,rfl,ht,une,by (first|lia|omega),fun p hp=>k _ _ (same_upd hp) (wrong (zs:=qs ++ qs) upd_same (by rw [List.map_append]; exact dats_app du du) (fun q hq=>(List.mem_append.mp hq).elim (nm q) (nm q)) (fun e=>by rw [List.length_append] at e; (first|lia|omega)) (same_upd hp))⟩))
    pa_good0)))))))))))))
  (pss_cons (ps_expr (pe_bm PySem.F.plainAttrs_list PySem.F.slot_list_append PySem.F.type_list_append mt_append (pv 4) (pa_cons (pe_op (op_catTA K rfl) (pv 0) (pe_tup (pa_cons (pe_tup (pa_cons pe_str (pa_cons pe_int pa_nil))) pa_nil))) pa_nil)))
  (pss_cons (ps_set (i:=5) nd rfl (Or.inl rfl) (g_listF (by decide) (pa_good stΦ (BadRow.stay (K:=K) (y:=q.1))
    ((pe_tup (pa_cons pe_str (pa_cons (pv 3) pa_nil))).weak (fun σ H Q ⟨g,k⟩=>by obtain ⟨⟨f4,f5,f6,rfl⟩,ht,du⟩:=hΦ g; exact ⟨_,rfl,(by show 2<=sizeLine; (first|lia|omega)),fun p hp=>k _ _ (same_upd hp) (.inl (.inr ⟨p,_,rfl,upd_same,.inr ⟨_,_,rfl,.inr ⟨_,rfl,(by decide),zno⟩⟩⟩))⟩))
    (pa_good stΦ (BadRow.stay (K:=K) (y:=q.1))
    ((pe_lst (pa_cons (pv 2) (pa_cons (pv 3) pa_nil))).weak (fun σ H Q ⟨g,k⟩=>by obtain ⟨⟨f4,f5,f6,rfl⟩,ht,du⟩:=hΦ g; exact ⟨_,rfl,_,rfl,(by show 2<=sizeLine; (first|lia|omega)),fun p hp=>k _ _ (same_upd hp) (.inl (.inl ⟨rfl,noTup_list upd_same⟩))⟩))
    (pa_good stΦ (BadRow.stay (K:=K) (y:=q.1))
    ((pe_tup (pa_cons (pv 2) (pa_cons (pv 3) (pa_cons pe_int pa_nil)))).weak (fun σ H Q ⟨g,k⟩=>by obtain ⟨⟨f4,f5,f6,rfl⟩,ht,du⟩:=hΦ g; exact ⟨_,rfl,_,rfl,(by show 3<=sizeLine; (first|lia|omega)),fun p hp=>k _ _ (same_upd hp) (.inl (.inr ⟨p,_,rfl,upd_same,.inl ⟨by show 3 ≠ 2; decide,rfl⟩⟩))⟩))
    (pa_good stΦ (BadRow.stay (K:=K) (y:=q.1))
    ((pe_tup (pa_cons (pv 2) pa_nil)).weak (fun σ H Q ⟨g,k⟩=>by obtain ⟨⟨f4,f5,f6,rfl⟩,ht,du⟩:=hΦ g; exact ⟨_,rfl,(by show 1<=sizeLine; (first|lia|omega)),fun p hp=>k _ _ (same_upd hp) (.inl (.inr ⟨p,_,rfl,upd_same,.inl ⟨by show 1 ≠ 2; decide,rfl⟩⟩))⟩))
    (pa_good stΦ (BadRow.stay (K:=K) (y:=q.1))
    (g_var (pv 2) fun σ H g=>by obtain ⟨⟨f4,f5,f6,rfl⟩,ht,du⟩:=hΦ g; exact ⟨_,rfl,.inl (.inl ⟨rfl,(Dat.str q.1).noTup fun s e=>by cases e⟩)⟩)
    (pa_good stΦ (BadRow.stay (K:=K) (y:=q.1))
    (g_dat pe_non (fun H=>.non) (fun H h=>.inl (.inl ⟨rfl,h.noTup fun s e=>by cases e⟩)))
    (pa_good stΦ (BadRow.stay (K:=K) (y:=q.1))
    ((pe_tup (pa_cons (pe_lst (pa_cons (pv 2) pa_nil)) (pa_cons (pv 3) pa_nil))).weak (fun σ H Q ⟨g,k⟩=>by obtain ⟨⟨f4,f5,f6,rfl⟩,ht,du⟩:=hΦ g; exact ⟨_,rfl,(by show 1<=sizeLine; (first|lia|omega)),fun l hl=>⟨_,rfl,(by show 2<=sizeLine; (first|lia|omega)),fun p hp=>k _ _ ((same_upd hl).trans (same_upd hp)) (.inl (.inr ⟨p,_,rfl,upd_same,.inr ⟨_,_,rfl,.inl ⟨⟨_,.lst (same_upd hp _ _ upd_same),rfl⟩,rfl⟩⟩⟩))⟩⟩))
    (pa_good stΦ (BadRow.stay (K:=K) (y:=q.1))
    ((pe_tup (pa_cons pe_dnewK (pa_cons (pv 3) pa_nil))).weak (fun σ H Q ⟨g,k⟩=>by obtain ⟨⟨f4,f5,f6,rfl⟩,ht,du⟩:=hΦ g; exact fun l hl=>⟨_,rfl,(by show 2<=sizeLine; (first|lia|omega)),fun p hp=>k _ _ ((same_upd hl).trans (same_upd hp)) (.inl (.inr ⟨p,_,rfl,upd_same,.inr ⟨_,_,rfl,.inl ⟨⟨_,.dK (same_upd hp _ _ upd_same),rfl⟩,rfl⟩⟩⟩))⟩))
    pa_good0))))))))))
  (pss_cons (ps_for PassesOwn.never rfl (pi_listK K rfl (g_listF (by decide) (pa_good stΦ (NumIs.stay (K:=K) (b:=false))
    ((pe_un un_neg pe_int).weak (fun σ H Q ⟨g,k⟩=>by exact ⟨_,rfl,k _ _ (Same.refl _) (.inl ⟨_,rfl,by decide⟩)⟩))
    (pa_good stΦ (NumIs.stay (K:=K) (b:=false))
    ((pe_op op_sub (pe_un un_neg pe_int) (pv 3)).weak (fun σ H Q ⟨g,k⟩=>by obtain ⟨⟨f4,f5,f6,rfl⟩,ht,du⟩:=hΦ g; exact ⟨_,rfl,_,rfl,_,_,rfl,rfl,k _ _ (Same.refl _) (.inl ⟨_,rfl,(decide_eq_false (by (first|lia|omega))).symm⟩)⟩))
    (pa_good stΦ (NumIs.stay (K:=K) (b:=false))
    (g_dat pe_bl (fun H=>.bl true) (fun H h=>.inr ⟨rfl,.inl ⟨_,rfl⟩⟩))
    (pa_good stΦ (NumIs.stay (K:=K) (b:=false))
    (g_dat pe_bl (fun H=>.bl false) (fun H h=>.inr ⟨rfl,.inl ⟨_,rfl⟩⟩))
    (pa_good stΦ (NumIs.stay (K:=K) (b:=false))
    (g_dat pe_non (fun H=>.non) (fun H h=>.inr ⟨rfl,.inr ⟨_,h.ty,rfl⟩⟩))
    (pa_good stΦ (NumIs.stay (K:=K) (b:=false))
    ((pe_callTy call_str_int (by rfl) h_str PyProof.Rows.boot_str (pa_cons (pv 3) pa_nil)).weak (fun σ H Q ⟨g,k⟩=>by obtain ⟨⟨f4,f5,f6,rfl⟩,ht,du⟩:=hΦ g; exact ⟨_,rfl,_,rfl,log_of q0 q400,k _ _ (Same.refl _) (.inr ⟨rfl,.inr ⟨_,.str _,rfl⟩⟩)⟩))
    (pa_good stΦ (NumIs.stay (K:=K) (b:=false))
    ((pe_tup (pa_cons (pv 3) pa_nil)).weak (fun σ H Q ⟨g,k⟩=>by obtain ⟨⟨f4,f5,f6,rfl⟩,ht,du⟩:=hΦ g; exact ⟨_,rfl,(by show 1<=sizeLine; (first|lia|omega)),fun p hp=>k _ _ (same_upd hp) (.inr ⟨rfl,.inr ⟨_,.tup upd_same,rfl⟩⟩)⟩))
    (pa_good stΦ (NumIs.stay (K:=K) (b:=false))
    ((pe_lst (pa_cons (pv 3) pa_nil)).weak (fun σ H Q ⟨g,k⟩=>by obtain ⟨⟨f4,f5,f6,rfl⟩,ht,du⟩:=hΦ g; exact ⟨_,rfl,(by show 1<=sizeLine; (first|lia|omega)),fun p hp=>k _ _ (same_upd hp) (.inr ⟨rfl,.inr ⟨_,.lst upd_same,rfl⟩⟩)⟩))
    (pa_good stΦ (NumIs.stay (K:=K) (b:=false))
    ((pe_dnewK).weak (fun σ H Q ⟨g,k⟩=>by exact fun p hp=>k _ _ (same_upd hp) (.inr ⟨rfl,.inr ⟨_,.dK upd_same,rfl⟩⟩)))
    pa_good0))))))))))) (pg_name (i:=6) nd rfl (Or.inl rfl))
  (pss_one (ps_expr (pe_bm PySem.F.plainAttrs_list PySem.F.slot_list_append PySem.F.type_list_append mt_append (pv 5) (pa_cons (pe_tup (pa_cons (pv 2) (pa_cons (pv 6) pa_nil))) pa_nil)))))
  (pss_cons (ps_set (i:=4) nd rfl (Or.inl rfl) (pe_op op_cat (pv 4) (pe_comp (N:=["_law_row","_law_prices_here","_law_at"]) (σ0:=fun σ=>[none,some 0,some 1].map fun j=>j.bind fun j=>(σ[j]?).join) rfl (CompOk.caught (by rfl) (by decide +kernel) rfl (by decide +kernel) (by intro y hy; simp only [List.mem_cons,List.not_mem_nil,or_false] at hy; rcases hy with rfl | rfl <;> rfl)
   (by intro y hy e; simp only [List.mem_cons,List.not_mem_nil,or_false] at hy; rcases hy with rfl | rfl | rfl | rfl <;> first | exact ⟨_,rfl⟩ | cases e)) (fun σ _=>Carry.of [none,some 0,some 1] rfl (by
   intro i j x h1 h2
   match i,h1,h2 with
   | 0,_,h2=>cases h2
   | 1,h1,h2=>cases h1; cases h2; exact ⟨rfl,.inl rfl,.inl rfl⟩
   | 2,h1,h2=>cases h1; cases h2; exact ⟨rfl,.inl rfl,.inl rfl⟩
   | n + 3,h1,_=>cases h1)) (pi_listK K rfl (pv 5))
   (fun s2 H C fp=>⟨(pg_name (i:=0) (show (["_law_row","_law_prices_here","_law_at"]:List Str).Nodup by decide +kernel) rfl (Or.inl rfl)),pts_nil,(pe_op (op_catTA K rfl) (pe_op (op_catTA K rfl) (pe_slice (sl_tupK K rfl) (pv 1) po_none (po_some (pv 2))) (pe_tup (pa_cons (pv 0) pa_nil))) (pe_slice (sl_tupK K rfl) (pv 1) (po_some (pe_op op_add (pv 2) pe_int)) po_none))⟩))))
  (pss_cons (ps_if (pt_cmpR op_gt (pe_callB call_len_seq (by rfl) h_len PySem.boot_len (pa_cons (pv 0) pa_nil)) pe_int (nomark _))
  (pss_one (ps_set (i:=4) nd rfl (Or.inl rfl) (pe_op op_cat (pv 4) (pe_lst (pa_cons (pe_backX (pv 0) (pe_un un_neg pe_int)) (pa_cons (pe_op (op_catTA K rfl) (pe_slice (sl_tupK K rfl) (pv 0) (po_some pe_int) po_none) (pe_slice (sl_tupK K rfl) (pv 0) po_none (po_some pe_int))) pa_nil))))))
  pss_nil)
  (pss_one (ps_ret (pv 4)))))))))),?_⟩
  have at1:atI us (i:Int)=some (.ref tt):=by rw [atI_nat (List.getElem?_eq_getElem hi'),e2]
  refine ⟨_,rfl,_,rfl,t,_,_,_,rfl,rfl,SqT.of ht0,at1,tt,_,rfl,SqT.of htt,rfl,_,_,rfl,_,_,rfl,rfl,?_⟩
  refine ⟨mkΦ _ _ _ ht0 du0,fun l1 ts1 H1 s1 hl1 ok1 n1=>?_⟩
  have ht1:=s1 _ _ ht0
  have du1:=row_datsR du0 s1
  have nl1:∀ {b:Addr} {o},H b=some o->b ≠ l1:=fun {b o} e z=>by subst z; rw [s1 _ _ e] at hl1; cases hl1
  have hl1':(upd H1 l1 (.lst ts1)) l1=some (.lst ts1):=upd_same
  have s1':=same_upd (o:=.lst ts1) hl1
  generalize upd H1 l1 (.lst ts1)=H2 at hl1' s1' ⊢
  refine ⟨_,rfl,.inl ⟨rfl,_,SqL.of hl1'⟩,_,rfl,(by show 2<=sizeLine; (first|lia|omega)),fun T1 hT1=>⟨(by show 1<=sizeLine; (first|lia|omega)),fun Y1 hY1=>?_⟩⟩
  have q1:=same_upd (o:=.tup [.str (Str.ofString "zzzzzz"),.int 0]) hT1
  have hTT:(upd H2 T1 (.tup [.str (Str.ofString "zzzzzz"),.int 0])) T1=some (.tup [.str (Str.ofString "zzzzzz"),.int 0]):=upd_same
  generalize upd H2 T1 (.tup [.str (Str.ofString "zzzzzz"),.int 0])=H3 at q1 hTT hY1 ⊢
  have q2:=same_upd (o:=.tup [.ref T1]) hY1
  have hYY:(upd H3 Y1 (.tup [.ref T1])) Y1=some (.tup [.ref T1]):=upd_same
  generalize upd H3 Y1 (.tup [.ref T1])=H4 at q2 hYY ⊢
  have s24:=q1.trans q2
  have s14:=s1'.trans s24
  refine catA (K:=K) (s14 _ _ ht1) hYY (by show _ + 1<=sizeLine; (first|lia|omega)) fun Z1 H5 s5 hZ1=>?_
  have s25:=s24.trans s5
  have s15:=s1'.trans s25
  have z1:PricesIs K H5 (.ref Z1) (qs.map (·.1)) false:=wrong (H:=H5) (zs:=qs ++ [(Str.ofString "zzzzzz",0)]) hZ1 (by rw [List.map_append]; exact dats_app (row_datsR du1 s15) (.cons (rowD_of (u:=(Str.ofString "zzzzzz",0)) (s5 _ _ (q2 _ _ hTT))) .nil)) (fun q hq=>(List.mem_append.mp hq).elim (nm q) fun h=>by rw [List.mem_singleton.mp h]; decide +kernel) (fun e=>by rw [List.length_append] at e; simp at e) (Same.refl _)
  refine ⟨l1,_,_,rfl,rfl,s25 _ _ hl1',by (first|lia|omega),?_⟩
  have hH6:∀ b o,H1 b=some o->(upd H5 l1 (.lst (ts1 ++ [.ref Z1]))) b=some o:=fun b o e=>by
   rw [upd_ne (ne_of_none e hl1)]
   exact s15 _ _ e
  have hl6:(upd H5 l1 (.lst (ts1 ++ [.ref Z1]))) l1=some (.lst (ts1 ++ [.ref Z1])):=upd_same
  have ok6:∀ u ∈ ts1 ++ [V.ref Z1],PricesIs K (upd H5 l1 (.lst (ts1 ++ [.ref Z1]))) u (qs.map (·.1)) false:=fun u hu=>by
   rcases List.mem_append.mp hu with hu | hu
   ·exact (ok1 u hu).same hH6
   ·rw [List.mem_singleton.mp hu]
    have du6:=row_datsR du1 hH6
    refine rows_wrong (qs:=qs ++ [(Str.ofString "zzzzzz",0)]) (us:=us ++ [.ref T1]) (by rw [upd_ne (by intro z; subst z; rw [s25 _ _ hl1'] at hZ1; cases hZ1)]; exact hZ1) ?_ (fun q hq=>(List.mem_append.mp hq).elim (nm q) fun h=>by rw [List.mem_singleton.mp h]; decide +kernel) (fun e=>by have:=congrArg List.length e; rw [List.length_map,List.length_map,List.length_append] at this; simp at this)
    rw [List.map_append]
    refine dats_app du6 (.cons (rowD_of (u:=(Str.ofString "zzzzzz",0)) ?_) .nil)
    have hT5:=s5 _ _ (q2 _ _ hTT)
    rw [upd_ne (by intro z; subst z; rw [s25 _ _ hl1'] at hT5; cases hT5)]
    exact hT5
  have s6:Same H (upd H5 l1 (.lst (ts1 ++ [.ref Z1]))):=fun b o e=>hH6 _ _ (s1 _ _ e)
  have n6:(ts1 ++ [V.ref Z1]).length=12:=by rw [List.length_append,n1]; rfl
  generalize upd H5 l1 (.lst (ts1 ++ [.ref Z1]))=H6 at hl6 ok6 s6 ⊢
  generalize ts1 ++ [V.ref Z1]=ts6 at hl6 ok6 n6 ⊢
  clear hH6 z1 s15 s25 s14 s24 q1 q2 s5 ok1 s1'
  refine ⟨mkΦ _ _ _ (s6 _ _ ht0) (row_datsR du0 s6),fun R0 rs0 H7 s7 hR0 okR nR=>?_⟩
  have hRR:(upd H7 R0 (.lst rs0)) R0=some (.lst rs0):=upd_same
  have s7':=same_upd (o:=.lst rs0) hR0
  generalize upd H7 R0 (.lst rs0)=H8 at hRR s7' ⊢
  have s8:Same H H8:=s6.trans (s7.trans s7')
  refine ⟨mkΦ _ _ _ (s8 _ _ ht0) (row_datsR du0 s8),fun B0 bs0 H9 s9 hB0 okB nB=>?_⟩
  have hBB:(upd H9 B0 (.lst bs0)) B0=some (.lst bs0):=upd_same
  have s9':=same_upd (o:=.lst bs0) hB0
  have okB':∀ u ∈ bs0,NumIs K (upd H9 B0 (.lst bs0)) u 0 false:=fun u hu=>(okB u hu).same s9'
  have hR9:=s9' _ _ (s9 _ _ hRR)
  have nRB:R0 ≠ B0:=by intro z; subst z; rw [s9 _ _ hRR] at hB0; cases hB0
  have s10:Same H7 (upd H9 B0 (.lst bs0)):=s7'.trans (s9.trans s9')
  generalize upd H9 B0 (.lst bs0)=H10 at hBB okB' hR9 s10 ⊢
  refine ⟨B0,rfl,⟨_,SqL.of hBB⟩,for_listN (xs:=bs0) (fun j σ H'=>(∃ v6:Option V,σ=[some (.ref t),some (.int i),some (.str q.1),some (.int q.2),some (.ref l1),some (.ref R0),v6])/\Same H7 H'/\H' B0=some (.lst bs0)/\(∀ u ∈ bs0,NumIs K H' u 0 false)/\∃ ex:List V,H' R0=some (.lst (rs0 ++ ex))/\ex.length=j/\∀ u ∈ ex,∃ (T:Addr) (b:V),u=.ref T/\b ∈ bs0/\H' T=some (.tup [.str q.1,b]))
   ⟨⟨_,rfl⟩,s10,hBB,okB',[],by rw [List.append_nil]; exact hR9,rfl,fun u hu=>nomatch hu⟩ (fun j σ H' _ hP=>SqL.of hP.2.2.1) (fun j v σ H' hv hP rt bk N hN=>?_) (fun σ H' hP=>?_)⟩
  ·obtain ⟨⟨v6,rfl⟩,sa,hB1,nb,ex,hR1,exl,exo⟩:=hP
   have jl:=(List.getElem?_eq_some_iff.mp hv).1
   refine ⟨_,rfl,.inl ⟨rfl,_,SqL.of hR1⟩,_,rfl,_,rfl,(by show 2<=sizeLine; (first|lia|omega)),fun T hT=>?_⟩
   have q1:=same_upd (o:=.tup [.str q.1,v]) hT
   have hTT:(upd H' T (.tup [.str q.1,v])) T=some (.tup [.str q.1,v]):=upd_same
   generalize upd H' T (.tup [.str q.1,v])=H11 at q1 hTT ⊢
   have hR2:=q1 _ _ hR1
   refine ⟨R0,_,_,rfl,rfl,hR2,by rw [List.length_append,nR,exl]; (first|lia|omega),?_⟩
   have tp:∀ {b:Addr} {ys:List V},H11 b=some (.tup ys)->(upd H11 R0 (.lst ((rs0 ++ ex) ++ [.ref T]))) b=some (.tup ys):=fun {b ys} e=>by
    rw [upd_ne (by intro z; subst z; rw [hR2] at e; cases e)]
    exact e
   refine hN _ _ ⟨⟨_,rfl⟩,fun b o z=>by rw [upd_ne (ne_of_none z hR0)]; exact q1 _ _ (sa _ _ z),by rw [upd_ne nRB.symm]; exact q1 _ _ hB1,fun u hu=>((nb u hu).same q1).updL hR2,ex ++ [.ref T],by rw [upd_same,List.append_assoc],by rw [List.length_append,exl]; rfl,fun u hu=>?_⟩
   rcases List.mem_append.mp hu with hu | hu
   ·obtain ⟨T',b,e,hb,hT'⟩:=exo u hu
    exact ⟨T',b,e,hb,tp (q1 _ _ hT')⟩
   ·rw [List.mem_singleton.mp hu]
    exact ⟨T,v,rfl,List.mem_of_getElem? hv,tp hTT⟩
  obtain ⟨⟨v6,rfl⟩,sa,hB1,nb,ex,hR1,exl,exo⟩:=hP
  have badR:∀ u ∈ rs0 ++ ex,BadRow K q.1 H' u:=fun u hu=>by
   rcases List.mem_append.mp hu with hu | hu
   ·exact BadRow.stay _ _ _ (okR u hu) sa
   ·obtain ⟨T',b,rfl,hb,hT'⟩:=exo u hu
    exact .inr ⟨T',b,rfl,hT',nb b hb⟩
  have rl:(rs0 ++ ex).length=17:=by rw [List.length_append,nR,exl,nB]
  generalize rs0 ++ ex=rs at hR1 badR rl
  have s11:Same H6 H':=s7.trans sa
  have s0:Same H H':=s6.trans s11
  have ht11:=s0 _ _ ht0
  have du11:=row_datsR du0 s0
  clear exo nb hB1 okB okB' sa
  refine ⟨_,rfl,_,rfl,R0,rfl,⟨_,SqL.of hR1⟩,?_⟩
  refine read_map over_list (xs:=rs) (fun D j σ' H2 acc=>∃ v0:Option V,σ'=[v0,some (.ref t),some (.int i)]/\Same H' H2/\H2 D=some (.lst acc)/\(∀ u ∈ acc,∃ (T:Addr) (r:V),u=.ref T/\r ∈ rs/\H2 T=some (.tup ((us.take i ++ [r]) ++ us.drop (i + 1))))/\acc.length=j)
   (by (first|lia|omega)) (fun D hD=>⟨_,rfl,same_upd hD,upd_same,(fun u hu=>nomatch hu),rfl⟩) (fun D j σ' H2 acc hD ⟨v0,_,sa,hDD,_,al⟩=>⟨SqL.of (sa _ _ hR1),hDD,al⟩) ?_ ?_
  ·rintro D j σ' H2 acc x' Bk hD ex' ⟨v0,rfl,sa,hDD,oa,al⟩ hBk
   refine ⟨_,rfl,_,rfl,_,rfl,slLo (sa _ _ ht11) hi' fun Z1a H1a s1a h1a=>?_⟩
   refine ⟨_,rfl,(by show 1<=sizeLine; (first|lia|omega)),fun Ya hYa=>?_⟩
   have q2a:=same_upd (o:=.tup [x']) hYa
   have hYYa:(upd H1a Ya (.tup [x'])) Ya=some (.tup [x']):=upd_same
   generalize upd H1a Ya (.tup [x'])=H3a at q2a hYYa ⊢
   refine catA (K:=K) (q2a _ _ h1a) hYYa (by rw [List.length_take]; show _ + 1<=sizeLine; (first|lia|omega)) fun Z2a H4a s4a h4a=>?_
   have sAa:=s1a.trans (q2a.trans s4a)
   refine ⟨_,rfl,_,rfl,_,_,rfl,rfl,_,rfl,?_⟩
   dsimp only [tNoPart]
   refine slHi (K:=K) (sAa _ _ (sa _ _ ht11)) hi' fun Z3a H5a s5a h5a=>?_
   refine catA (K:=K) (s5a _ _ h4a) h5a (by rw [List.length_append,List.length_take,List.length_drop]; show _ + 1 + _<=sizeLine; (first|lia|omega)) fun Za H6a s6a h6a=>?_
   have salla:=sAa.trans (s5a.trans s6a)
   have d6:=salla _ _ hDD
   have tp:∀ {b:Addr} {ys:List V},H6a b=some (.tup ys)->(upd H6a D (.lst (acc ++ [.ref Za]))) b=some (.tup ys):=fun {b ys} e=>by
    rw [upd_ne (by intro z; subst z; rw [d6] at e; cases e)]
    exact e
   refine hBk _ _ _ d6 ⟨_,rfl,fun b o e=>by rw [upd_ne (ne_of_none e hD)]; exact salla _ _ (sa _ _ e),upd_same,fun u hu=>?_,by rw [List.length_append,al]; rfl⟩
   rcases List.mem_append.mp hu with hu | hu
   ·obtain ⟨T',r,e,hr',hT'⟩:=oa u hu
    exact ⟨T',r,e,hr',tp (salla _ _ hT')⟩
   ·rw [List.mem_singleton.mp hu]
    exact ⟨Za,x',rfl,List.mem_of_getElem? ex',tp h6a⟩
  rintro D σ' H12 acc hD ⟨v0,rfl,sb,hDD,oa,al⟩
  have s12:Same H6 H12:=s11.trans sb
  refine ⟨l1,D,ts6,acc,rfl,rfl,s12 _ _ hl6,hDD,by (first|lia|omega),fun L2 hL2=>?_⟩
  have sc:=same_upd (o:=.lst (ts6 ++ acc)) hL2
  have hL2':(upd H12 L2 (.lst (ts6 ++ acc))) L2=some (.lst (ts6 ++ acc)):=upd_same
  have ok12:∀ u ∈ ts6 ++ acc,PricesIs K (upd H12 L2 (.lst (ts6 ++ acc))) u (qs.map (·.1)) false:=fun u hu=>by
   rcases List.mem_append.mp hu with hu | hu
   ·exact (ok6 u hu).same (s12.trans sc)
   ·obtain ⟨T',r,rfl,hr',hT'⟩:=oa u hu
    exact put_wrong (sc _ _ hT') (row_datsR du11 (sb.trans sc)) nm lo eq (BadRow.stay _ _ _ (badR r hr') (sb.trans sc))
  have s13:Same H (upd H12 L2 (.lst (ts6 ++ acc))):=s0.trans (sb.trans sc)
  have l13:(ts6 ++ acc).length=29:=by rw [List.length_append,n6,al,rl]
  generalize upd H12 L2 (.lst (ts6 ++ acc))=H13 at hL2' ok12 s13 ⊢
  generalize ts6 ++ acc=ts13 at hL2' ok12 l13 ⊢
  have ht13:=s13 _ _ ht0
  have du13:=row_datsR du0 s13
  refine ⟨_,rfl,t,_,rfl,.inr (SqT.of ht13),_,_,rfl,rfl,_,rfl,?_⟩
  refine ite2 (fun z=>?_) (fun z=>⟨_,rfl,k H13 L2 ts13 s13 hL2' ok12 (by (first|lia|omega))⟩)
  have z1:1 < us.length:=by
   have:=of_decide_eq_true z
   (first|lia|omega)
  refine ⟨_,rfl,_,rfl,t,us,rfl,SqT.of ht13,fun pa ha=>?_⟩
  have qa:=same_upd (o:=.tup us.reverse) ha
  have hpa:(upd H13 pa (.tup us.reverse)) pa=some (.tup us.reverse):=upd_same
  generalize upd H13 pa (.tup us.reverse)=H14 at qa hpa ⊢
  refine ⟨_,rfl,_,rfl,?_⟩
  dsimp only [tNoPart]
  refine ⟨t,us,rfl,SqT.of (qa _ _ ht13),nw2,fun pb hb=>?_⟩
  rw [cut_one us un]
  have qb:=same_upd (o:=.tup (us.drop 1)) hb
  have hpb:(upd H14 pb (.tup (us.drop 1))) pb=some (.tup (us.drop 1)):=upd_same
  generalize upd H14 pb (.tup (us.drop 1))=H15 at qb hpb ⊢
  refine ⟨_,rfl,_,rfl,t,us,rfl,SqT.of (qb _ _ (qa _ _ ht13)),nw3 z1,fun pc hc=>?_⟩
  rw [cut_first us z1]
  have qc:=same_upd (o:=.tup (us.take 1)) hc
  have hpc:(upd H15 pc (.tup (us.take 1))) pc=some (.tup (us.take 1)):=upd_same
  generalize upd H15 pc (.tup (us.take 1))=H16 at qc hpc ⊢
  refine catA (K:=K) (qc _ _ hpb) hpc (by rw [List.length_drop,List.length_take]; (first|lia|omega)) fun pd H17 qd hpd=>?_
  refine ⟨(by show 2<=sizeLine; (first|lia|omega)),fun L3 hL3=>?_⟩
  have qe:=same_upd (o:=.lst [.ref pa,.ref pd]) hL3
  have hL3':(upd H17 L3 (.lst [.ref pa,.ref pd])) L3=some (.lst [.ref pa,.ref pd]):=upd_same
  generalize upd H17 L3 (.lst [.ref pa,.ref pd])=H18 at qe hL3' ⊢
  have s1318:=qa.trans (qb.trans (qc.trans (qd.trans qe)))
  refine ⟨L2,L3,ts13,_,rfl,rfl,s1318 _ _ hL2',hL3',(by show _ + 2<=sizeLine; (first|lia|omega)),fun L4 hL4=>?_⟩
  have qf:=same_upd (o:=.lst (ts13 ++ [.ref pa,.ref pd])) hL4
  have sf:=s1318.trans qf
  refine ⟨_,rfl,k _ L4 _ (s13.trans sf) upd_same (fun u hu=>?_) (by rw [List.length_append,l13]; show 29 + 2<=60; decide)⟩
  have duF:=row_datsR du13 sf
  rcases List.mem_append.mp hu with hu | hu
  ·exact (ok12 u hu).same sf
  ·rcases List.mem_cons.mp hu with rfl | hu
   ·refine rows_wrong (us:=us.reverse) (qs:=qs.reverse) ((qb.trans (qc.trans (qd.trans (qe.trans qf)))) _ _ hpa) (by rw [List.map_reverse]; exact dats_rev duF) (fun q hq=>nm q (List.mem_reverse.mp hq)) (by rw [List.map_reverse]; exact rev_ne nd1 (by rw [List.length_map]; (first|lia|omega)))
   ·rw [List.mem_singleton.mp hu]
    refine rows_wrong (us:=us.drop 1 ++ us.take 1) (qs:=qs.drop 1 ++ qs.take 1) ((qe.trans qf) _ _ hpd) (by rw [List.map_append,List.map_drop,List.map_take]; exact dats_app (dats_drop' _ duF) (dats_take' _ duF)) (fun q hq=>(List.mem_append.mp hq).elim (fun h=>nm q (List.mem_of_mem_drop h)) fun h=>nm q (List.mem_of_mem_take h)) (by rw [List.map_append,List.map_drop,List.map_take]; exact rot_ne nd1 (by rw [List.length_map]; (first|lia|omega)))
end
def spLaw (K:PySem.W.Frag):Sp:=fun vs H Q _=>∃ (a:Addr) (ns:List Int),vs=[.ref a]/\Scr K H a (ns.map V.int)/\ns.length<=63/\∀ H',Q (.bl true) H'
section
variable {P:Program} {w:World} {K:PySem.W.Frag} {mg:Str->Option Value} {base:Heap}
theorem ok_law (h_int:mg "int"=none) (h_len:mg "len"=none) (h_range:mg "range"=none) (h_str:mg "str"=none)
  {fE fT fC fFL fPL fD fO f:Addr} {fdE fdT fdC fdFL fdPL fdD fdO fd:FuncData} (XE:Fn K mg "_law_pen" s_law_pen ["_law_script","_law_k"] fE fdE) (GE:FnOk P w K mg base CX0 1 fE fdE ["_law_script","_law_k"] (spPenT K)) (XT:Fn K mg "_law_take" s_law_take ["_law_pen_here","_law_many"] fT fdT) (GT:FnOk P w K mg base CX0 1 fT fdT ["_law_pen_here","_law_many"] spTakeT) (XC:Fn K mg "_law_case" s_law_case ["_law_pen_here","_law_kind"] fC fdC) (GC:FnOk P w K mg base CX0 3 fC fdC ["_law_pen_here","_law_kind"] spCaseZ) (XFL:Fn K mg "_law_fars" s_law_fars ["_law_case_here"] fFL fdFL) (GFL:FnOk P w K mg base CX0 1 fFL fdFL ["_law_case_here"] spFarsL) (XPL:Fn K mg "_law_prices" s_law_prices ["_law_pen_here","_law_case_here","_law_away","_law_levy"] fPL fdPL) (GPL:FnOk P w K mg base CX0 3 fPL fdPL ["_law_pen_here","_law_case_here","_law_away","_law_levy"] spPricesS) (XD:Fn K mg "stand" s_stand ["case","prices","levy"] fD fdD) (GD:FnOk P w K mg base CX0 6 fD fdD ["case","prices","levy"] (spStandX K)) (XO:Fn K mg "_law_odd_prices" s_law_odd_prices ["_law_prices_here","_law_at"] fO fdO) (GO:FnOk P w K mg base CX0 1 fO fdO ["_law_prices_here","_law_at"] (spOddP K))
  (F:Fun K "law" "law" s_law f fd):FnOk P w K mg base CX0 8 f fd ["_law_script"] (spLaw K):=by
 refine F.ok sc_law (fun vs H Q E h=>?_) (fun cdv A outer s H vs Q E hr h=>?_)
 ·obtain ⟨a,ns,rfl,_⟩:=h
  rfl
 ·obtain ⟨a,ns,rfl,hS,hlen,k⟩:=h
  have nd:=sc_law.nd
  have hu:=hu_of hr
  have hu64:=hr.units
  have big:100000 < sizeLine:=by decide
  obtain ⟨Φ,eΦ⟩:∃ Φ:St->Hp->Prop,Φ=fun σ _=>∃ lv:Int,0<=lv/\lv<=1000/\∃ v0 v1 v2 v3 v5 v6:Option V,σ=[v0,v1,v2,v3,some (.int lv),v5,v6]:=⟨_,rfl⟩
  have hΦ:∀ {σ:St} {H:Hp},Φ σ H->∃ lv:Int,0<=lv/\lv<=1000/\∃ v0 v1 v2 v3 v5 v6:Option V,σ=[v0,v1,v2,v3,some (.int lv),v5,v6]:=fun h=>by rw [eΦ] at h; exact h
  have mkΦ:∀ {σ:St} {H:Hp},(∃ lv:Int,0<=lv/\lv<=1000/\∃ v0 v1 v2 v3 v5 v6:Option V,σ=[v0,v1,v2,v3,some (.int lv),v5,v6])->Φ σ H:=fun h=>by rw [eΦ]; exact h
  have stΦ:Stay Φ:=fun σ H H' h s=>mkΦ (hΦ h)
  clear eΦ
  refine ⟨_,(pss_cons (ps_for PassesOwn.never rfl (pi_range1 (by rfl) h_range (pa_cons pe_int pa_nil)) (pg_name (i:=1) nd rfl (Or.inl rfl))
  (pss_cons (ps_set (i:=2) nd rfl (Or.inl rfl) (pe_call GE (hr.mono (by decide)) (by rfl) XE.mg XE.F.kp XE.b .nil pass0 (pa_cons (pv 0) (pa_cons (pv 1) pa_nil))))
  (pss_cons (ps_set (i:=3) nd rfl (Or.inl rfl) (pe_call GC (hr.mono (by decide)) (by rfl) XC.mg XC.F.kp XC.b .nil pass0 (pa_cons (pv 2) (pa_cons (pe_call GT (hr.mono (by decide)) (by rfl) XT.mg XT.F.kp XT.b .nil pass0 (pa_cons (pv 2) (pa_cons pe_int pa_nil))) pa_nil))))
  (pss_cons (ps_set (i:=4) nd rfl (Or.inl rfl) (pe_op op_mul (pe_call GT (hr.mono (by decide)) (by rfl) XT.mg XT.F.kp XT.b .nil pass0 (pa_cons (pv 2) (pa_cons pe_int pa_nil))) (pe_callTy call_int1 (by rfl) h_int PyProof.Rows.boot_int (pa_cons (pe_cmp (pc_notN (pe_ix ix_tup (pv 3) pe_int (fun _ _=>rfl)))) pa_nil))))
  (pss_cons (ps_set (i:=5) nd rfl (Or.inl rfl) (pe_call GPL (hr.mono (by decide)) (by rfl) XPL.mg XPL.F.kp XPL.b .nil pass0 (pa_cons (pv 2) (pa_cons (pv 3) (pa_cons (pe_call GFL (hr.mono (by decide)) (by rfl) XFL.mg XFL.F.kp XFL.b .nil pass0 (pa_cons (pv 3) pa_nil)) (pa_cons (pv 4) pa_nil))))))
  (pss_cons (ps_if (pt_cmpR op_isnot_bl (pe_call GD (hr.mono (by decide)) (by rfl) XD.mg XD.F.kp XD.b .nil pass0 (pa_cons (pv 3) (pa_cons (pv 5) (pa_cons (pv 4) pa_nil)))) pe_bl (nomark _))
  (pss_one (ps_ret pe_bl))
  pss_nil)
  (pss_cons (ps_for PassesOwn.never rfl (pi_listK K rfl (pe_call GO (hr.mono (by decide)) (by rfl) XO.mg XO.F.kp XO.b .nil pass0 (pa_cons (pv 5) (pa_cons (pe_call GT (hr.mono (by decide)) (by rfl) XT.mg XT.F.kp XT.b .nil pass0 (pa_cons (pv 2) (pa_cons (pe_callB call_len_seq (by rfl) h_len PySem.boot_len (pa_cons (pv 5) pa_nil)) pa_nil))) pa_nil)))) (pg_name (i:=6) nd rfl (Or.inl rfl))
  (pss_one (ps_if (pt_cmpR op_isnot_bl (pe_call GD (hr.mono (by decide)) (by rfl) XD.mg XD.F.kp XD.b .nil pass0 (pa_cons (pv 3) (pa_cons (pv 6) (pa_cons (pv 4) pa_nil)))) pe_bl (nomark _))
  (pss_one (ps_ret pe_bl))
  pss_nil)))
  (pss_cons (ps_for PassesOwn.never rfl (pi_listK K rfl (g_listF (by decide) (pa_good stΦ (NumIs.stay (K:=K) (b:=false))
    ((pe_un un_neg pe_int).weak (fun σ H Q ⟨g,k⟩=>by exact ⟨_,rfl,k _ _ (Same.refl _) (.inl ⟨_,rfl,by decide⟩)⟩))
    (pa_good stΦ (NumIs.stay (K:=K) (b:=false))
    ((pe_op op_sub (pe_un un_neg pe_int) (pv 4)).weak (fun σ H Q ⟨g,k⟩=>by obtain ⟨lv,l0,l9,v0,v1,v2,v3,v5,v6,rfl⟩:=hΦ g; exact ⟨_,rfl,_,rfl,_,_,rfl,rfl,k _ _ (Same.refl _) (.inl ⟨_,rfl,(decide_eq_false (by (first|lia|omega))).symm⟩)⟩))
    (pa_good stΦ (NumIs.stay (K:=K) (b:=false))
    (g_dat pe_bl (fun H=>.bl true) (fun H h=>.inr ⟨rfl,.inl ⟨_,rfl⟩⟩))
    (pa_good stΦ (NumIs.stay (K:=K) (b:=false))
    (g_dat pe_bl (fun H=>.bl false) (fun H h=>.inr ⟨rfl,.inl ⟨_,rfl⟩⟩))
    (pa_good stΦ (NumIs.stay (K:=K) (b:=false))
    (g_dat pe_non (fun H=>.non) (fun H h=>.inr ⟨rfl,.inr ⟨_,h.ty,rfl⟩⟩))
    (pa_good stΦ (NumIs.stay (K:=K) (b:=false))
    ((pe_callTy call_str_int (by rfl) h_str PyProof.Rows.boot_str (pa_cons (pv 4) pa_nil)).weak (fun σ H Q ⟨g,k⟩=>by obtain ⟨lv,l0,l9,v0,v1,v2,v3,v5,v6,rfl⟩:=hΦ g; exact ⟨_,rfl,_,rfl,log_of l0 (Int.lt_of_le_of_lt l9 (by decide +kernel)),k _ _ (Same.refl _) (.inr ⟨rfl,.inr ⟨_,.str _,rfl⟩⟩)⟩))
    (pa_good stΦ (NumIs.stay (K:=K) (b:=false))
    ((pe_tup (pa_cons (pv 4) pa_nil)).weak (fun σ H Q ⟨g,k⟩=>by obtain ⟨lv,l0,l9,v0,v1,v2,v3,v5,v6,rfl⟩:=hΦ g; exact ⟨_,rfl,(by show 1<=sizeLine; (first|lia|omega)),fun p hp=>k _ _ (same_upd hp) (.inr ⟨rfl,.inr ⟨_,.tup upd_same,rfl⟩⟩)⟩))
    (pa_good stΦ (NumIs.stay (K:=K) (b:=false))
    ((pe_lst (pa_cons (pv 4) pa_nil)).weak (fun σ H Q ⟨g,k⟩=>by obtain ⟨lv,l0,l9,v0,v1,v2,v3,v5,v6,rfl⟩:=hΦ g; exact ⟨_,rfl,(by show 1<=sizeLine; (first|lia|omega)),fun p hp=>k _ _ (same_upd hp) (.inr ⟨rfl,.inr ⟨_,.lst upd_same,rfl⟩⟩)⟩))
    (pa_good stΦ (NumIs.stay (K:=K) (b:=false))
    ((pe_dnewK).weak (fun σ H Q ⟨g,k⟩=>by exact fun p hp=>k _ _ (same_upd hp) (.inr ⟨rfl,.inr ⟨_,.dK upd_same,rfl⟩⟩)))
    pa_good0))))))))))) (pg_name (i:=6) nd rfl (Or.inl rfl))
  (pss_one (ps_if (pt_cmpR op_isnot_bl (pe_call GD (hr.mono (by decide)) (by rfl) XD.mg XD.F.kp XD.b .nil pass0 (pa_cons (pv 3) (pa_cons (pv 5) (pa_cons (pv 6) pa_nil)))) pe_bl (nomark _))
  (pss_one (ps_ret pe_bl))
  pss_nil)))
  (pss_one (ps_if (pw_and (pt_cmp (pc_isN (pe_ix ix_tup (pv 3) pe_int (fun _ _=>rfl)))) (pw_and1 (pt_cmpR op_isnot_bl (pe_call GD (hr.mono (by decide)) (by rfl) XD.mg XD.F.kp XD.b .nil pass0 (pa_cons (pv 3) (pa_cons (pv 5) (pa_cons (pe_op op_add pe_int (pe_call GT (hr.mono (by decide)) (by rfl) XT.mg XT.F.kp XT.b .nil pass0 (pa_cons (pv 2) (pa_cons pe_int pa_nil)))) pa_nil)))) pe_bl (nomark _)))).pt
  (pss_one (ps_ret pe_bl))
  pss_nil))))))))))
  (pss_one (ps_ret pe_bl))),?_⟩
  refine ⟨2,rfl,by decide,by decide,for_range (n:=2) (fun _ σ H'=>(∃ v1 v2 v3 v4 v5 v6,σ=[some (.ref a),v1,v2,v3,v4,v5,v6])/\Scr K H' a (ns.map V.int)) ⟨⟨_,_,_,_,_,_,rfl⟩,hS⟩ ?_ (fun σ H' _=>k H')⟩
  rintro j σ H0 hj ⟨⟨v1,v2,v3,v4,v5,v6,rfl⟩,S0⟩
  refine ⟨_,rfl,_,rfl,a,ns,0 + (j:Int),rfl,S0,by (first|lia|omega),fun p y0 y1 y2 hp=>?_⟩
  have P1:PnAt (upd H0 p (.lst (penL y0 y1 y2))) p:=PnAt.set _ _ _
  have q1:Same H0 (upd H0 p (.lst (penL y0 y1 y2))):=same_upd hp
  generalize upd H0 p (.lst (penL y0 y1 y2))=H1 at P1 q1 ⊢
  refine ⟨_,rfl,_,rfl,p,3,rfl,P1,by decide,lt600 (by decide),fun d1 a1 b1 c1 d10 d11=>?_⟩
  refine ⟨p,d1,rfl,PnAt.set _ _ _,fun H2 c m n xs ws rs1 rs2 x d P2 k2 cw few znz=>?_⟩
  have k02:Keep p H1 H2:=Keep.upd.trans k2
  refine ⟨_,rfl,p,9,rfl,P2,by decide,lt600 (by decide),fun e a3 b3 c3 e0 e1=>?_⟩
  have kk3:Keep p H2 (upd H2 p (.lst (penL a3 b3 c3))):=Keep.upd
  have P3:PnAt (upd H2 p (.lst (penL a3 b3 c3))) p:=PnAt.set _ _ _
  generalize upd H2 p (.lst (penL a3 b3 c3))=H3 at kk3 P3 ⊢
  have cw3:=cw.keepT (tupK P2 kk3)
  have k03:=k02.trans kk3
  obtain ⟨t1,t2,us1,us2,hc,ht1,hd1,ht2,hd2⟩:=cw3.ex
  refine ⟨_,rfl,c,_,_,_,rfl,rfl,SqT.of hc,rfl,.inr ⟨_,rfl,_,_,rfl,rfl,.inl ⟨by (first|lia|omega),by (first|lia|omega)⟩,?_⟩⟩
  obtain ⟨lv,elv,lok⟩:∃ lv:Int,lv=e * (if (!decide (x=.non))=true then 1 else 0)/\LevyOk x lv:=by
   refine ⟨_,rfl,?_⟩
   by_cases z:x=.non
   ·rw [decide_eq_true z]
    exact ⟨by simp,by simp,fun _=>by simp⟩
   ·rw [decide_eq_false z]
    exact ⟨by simp; (first|lia|omega),by simp; (first|lia|omega),fun h=>absurd h z⟩
  have lok2:∀ H:Hp,LevyIs K H x (.int lv) true:=fun H=>.inr ⟨lv,rfl,lok.1,by
   by_cases z:x=.non
   ·rw [lok.2.2 z,decide_eq_true (rfl:(0:Int)=0),Bool.or_true]
   ·rw [decide_eq_false z]; rfl⟩
  refine ⟨_,rfl,_,rfl,_,rfl,c,m,n,xs,ws,rs1,rs2,x,d,rfl,cw3,fun H4 A0 s4 hA kn=>⟨_,rfl,p,c,m,A0,n,xs,ws,rs1,rs2,x,d,lv,by rw [elv]; rfl,P3.same s4,cw3.same s4,few,kn,lok.1,lok.2.1,fun H5 T qs P5 k5 cp5 st5 bd5=>?_⟩⟩
  have k05:=(k03.trans (Keep.of_same s4)).trans k5
  have ql:=cp5.ok.len
  have l2:=cp5.cw.l2
  have one:=cp5.cw.ok2.one
  refine ⟨_,rfl,_,rfl,_,rfl,c,m,n,xs,ws,rs1,rs2,x,d,.ref T,.int lv,by rw [elv]; rfl,cp5.cw,.inr ⟨T,qs,rfl,cp5,.inr ⟨lv,rfl,lok2 _,fun H6 s6=>⟨_,_,rfl,rfl,_,rfl,?_⟩⟩⟩⟩
  rw [st5]
  refine iteF ?_
  have P6:=P5.same s6
  have k06:=k05.trans (Keep.of_same s6)
  have cp6:=cp5.same s6
  obtain ⟨us,hT,du⟩:=cp6.ex
  have ul:=rows_len du
  refine ⟨_,rfl,_,rfl,_,rfl,T,_,rfl,.inr (SqT.of hT),p,_,rfl,P6,by (first|lia|omega),lt600 (by (first|lia|omega)),fun e2 a4 b4 c4 e20 e21=>?_⟩
  obtain ⟨g,rfl⟩:∃ g:Nat,e2=(g:Int):=⟨e2.toNat,by (first|lia|omega)⟩
  have kk7:Keep p H6 (upd H6 p (.lst (penL a4 b4 c4))):=Keep.upd
  have P7:PnAt (upd H6 p (.lst (penL a4 b4 c4))) p:=PnAt.set _ _ _
  generalize upd H6 p (.lst (penL a4 b4 c4))=H7 at kk7 P7 ⊢
  have t7:=tupK P6 kk7
  have cp7:=cp6.keepT t7
  have k07:=k06.trans kk7
  refine ⟨T,g,us,qs,rfl,t7 _ _ hT,row_dats du t7,by (first|lia|omega),by (first|lia|omega),by rw [cp7.ok.nm]; exact cp7.cw.ok2.nd,fun q hq=>(cp7.names q hq).2,fun q hq=>znz _ (cp7.names q hq).1,cp7.ok.lo,bd5,fun H8 D ts s8 hD okT tl=>?_⟩
  have cp8:=cp7.same s8
  have P8:=P7.same s8
  have k08:=k07.trans (Keep.of_same s8)
  refine ⟨D,rfl,⟨_,SqL.of hD⟩,for_listN (xs:=ts) (fun _ σ H'=>(∃ v6:Option V,σ=[some (.ref a),some (.int (0 + (j:Int))),some (.ref p),some (.ref c),some (.int lv),some (.ref T),v6])/\Same H8 H') ⟨⟨_,by rw [elv]; rfl⟩,Same.refl _⟩ (fun i σ H' _ hP=>SqL.of (hP.2 _ _ hD)) (fun i v σ H' hv hP rt bk N hN=>?_) (fun σ H9 hP=>?_)⟩
  ·obtain ⟨⟨v6,rfl⟩,sa⟩:=hP
   have ok:=(okT v (List.mem_of_getElem? hv)).same sa
   rw [cp8.ok.nm] at ok
   refine ⟨_,rfl,_,rfl,_,rfl,c,m,n,xs,ws,rs1,rs2,x,d,v,.int lv,rfl,cp8.cw.same sa,.inl ⟨ok,fun H9 s9=>⟨_,_,rfl,rfl,_,rfl,?_⟩⟩⟩
   refine iteF ?_
   exact hN _ _ ⟨⟨_,rfl⟩,sa.trans s9⟩
  obtain ⟨⟨v6,rfl⟩,s9⟩:=hP
  have cp9:=cp8.same s9
  refine ⟨mkΦ ⟨lv,lok.1,lok.2.1,_,_,_,_,_,_,rfl⟩,fun B0 bs HB sB hB0 okB nB=>?_⟩
  have hBB:(upd HB B0 (.lst bs)) B0=some (.lst bs):=upd_same
  have sB':=sB.trans (same_upd (o:=.lst bs) hB0)
  have okB':∀ u ∈ bs,NumIs K (upd HB B0 (.lst bs)) u 0 false:=fun u hu=>(okB u hu).same (same_upd hB0)
  generalize upd HB B0 (.lst bs)=H10 at hBB sB' okB' ⊢
  have cp10:=cp9.same sB'
  refine ⟨B0,rfl,⟨_,SqL.of hBB⟩,for_listN (xs:=bs) (fun _ σ H'=>(∃ v6:Option V,σ=[some (.ref a),some (.int (0 + (j:Int))),some (.ref p),some (.ref c),some (.int lv),some (.ref T),v6])/\Same H10 H') ⟨⟨_,rfl⟩,Same.refl _⟩ (fun i σ H' _ hP=>SqL.of (hP.2 _ _ hBB)) (fun i v σ H' hv hP rt bk N hN=>?_) (fun σ H11 hP=>?_)⟩
  ·obtain ⟨⟨v6,rfl⟩,sa⟩:=hP
   refine ⟨_,rfl,_,rfl,_,rfl,c,m,n,xs,ws,rs1,rs2,x,d,.ref T,v,rfl,cp10.cw.same sa,.inr ⟨T,qs,rfl,cp10.same sa,.inl ⟨.inl ⟨rfl,(okB' v (List.mem_of_getElem? hv)).same sa⟩,fun H9 s9=>⟨_,_,rfl,rfl,_,rfl,?_⟩⟩⟩⟩
   refine iteF ?_
   exact hN _ _ ⟨⟨_,rfl⟩,sa.trans s9⟩
  obtain ⟨⟨v6,rfl⟩,s11⟩:=hP
  have cp11:=cp10.same s11
  have s811:=s9.trans (sB'.trans s11)
  have P11:=P8.same s811
  have k11:=k08.trans (Keep.of_same s811)
  obtain ⟨t1',t2',us1',us2',hc',_⟩:=cp11.cw.ex
  have fin:∀ {H':Hp},Keep p H1 H'->Scr K H' a (ns.map V.int):=fun {H'} kk=>S0.same fun b o z=>kk b o (ne_of_none z hp) (q1 _ _ z)
  refine ⟨_,rfl,c,_,_,_,rfl,rfl,SqT.of hc',rfl,_,rfl,?_⟩
  rcases cp11.cw.lim with ⟨rfl,_⟩ | ⟨j',rfl,_⟩
  ·refine iteT ?_
   refine ⟨_,rfl,_,rfl,_,rfl,p,9,rfl,P11,by decide,lt600 (by decide),fun e4 a5 b5 c5 e40 e41=>?_⟩
   have kk12:Keep p H11 (upd H11 p (.lst (penL a5 b5 c5))):=Keep.upd
   have cp12:=cp11.keepT (tupK P11 kk12)
   generalize upd H11 p (.lst (penL a5 b5 c5))=H12 at kk12 cp12 ⊢
   refine ⟨_,_,rfl,rfl,c,m,n,xs,ws,rs1,rs2,V.non,d,.ref T,.int (1 + e4),rfl,cp12.cw,.inr ⟨T,qs,rfl,cp12,.inl ⟨.inr ⟨1 + e4,rfl,by (first|lia|omega),?_⟩,fun H13 s13=>⟨_,_,rfl,rfl,_,rfl,?_⟩⟩⟩⟩
   ·rw [decide_eq_true (rfl:V.non=V.non),decide_eq_false (by (first|lia|omega):¬ 1 + e4=0)]; rfl
   refine iteF ?_
   exact ⟨⟨_,_,_,_,_,_,rfl⟩,fin ((k11.trans kk12).trans (Keep.of_same s13))⟩
  ·refine iteF ?_
   exact ⟨⟨_,_,_,_,_,_,rfl⟩,fin k11⟩
end
theorem all_mk {l:PySem.W.OpenLaw} {w:World} {K:PySem.W.Frag} {h:Heap} {mg:Str->Option Value} {fa f1 f2 f3 f4 f5 f6 f7 f8 f9 f10 f11 f12 f13 f14 f15 f16 f17 f18 f19 f20 f21 f22 f23 f24 f25 f26 f27:Addr} (X:K.In h) (G:h.Ns mainGlobals mg) (hfa:mg "law"=some (.ref fa))
  {od1 an1 od2 an2 od3 an3 od4 an4 od5 an5 od6 an6 od7 an7 od8 an8 od9 an9 od10 an10 od11 an11 od12 an12 od13 an13 od14 an14 od15 an15 od16 an16 od17 an17 od18 an18 od19 an19 od20 an20 od21 an21 od22 an22 od23 an23 od24 an24 od25 an25 od26 an26 od27 an27:Option Addr} {sl1 sl2 sl3 sl4 sl5 sl6 sl7 sl8 sl9 sl10 sl11 sl12 sl13 sl14 sl15 sl16 sl17 sl18 sl19 sl20 sl21 sl22 sl23 sl24 sl25 sl26 sl27:Array (Option Value)} {oc1 kV1 dc1 pm1 cd1 ct1 oc2 kV2 dc2 pm2 cd2 ct2 oc3 kV3 dc3 pm3 cd3 ct3 oc4 kV4 dc4 pm4 cd4 ct4 oc5 kV5 dc5 pm5 cd5 ct5 oc6 kV6 dc6 pm6 cd6 ct6 oc7 kV7 dc7 pm7 cd7 ct7 oc8 kV8 dc8 pm8 cd8 ct8 oc9 kV9 dc9 pm9 cd9 ct9 oc10 kV10 dc10 pm10 cd10 ct10 oc11 kV11 dc11 pm11 cd11 ct11 oc12 kV12 dc12 pm12 cd12 ct12 oc13 kV13 dc13 pm13 cd13 ct13 oc14 kV14 dc14 pm14 cd14 ct14 oc15 kV15 dc15 pm15 cd15 ct15 oc16 kV16 dc16 pm16 cd16 ct16 oc17 kV17 dc17 pm17 cd17 ct17 oc18 kV18 dc18 pm18 cd18 ct18 oc19 kV19 dc19 pm19 cd19 ct19 oc20 kV20 dc20 pm20 cd20 ct20 oc21 kV21 dc21 pm21 cd21 ct21 oc22 kV22 dc22 pm22 cd22 ct22 oc23 kV23 dc23 pm23 cd23 ct23 oc24 kV24 dc24 pm24 cd24 ct24 oc25 kV25 dc25 pm25 cd25 ct25 oc26 kV26 dc26 pm26 cd26 ct26 oc27 kV27 dc27 pm27 cd27 ct27:Value}
  (a1:PySem.W.nsIn K mainGlobals "is_name"=some (some (.ref f1))) (l1:K.lookup f1=some ⟨oc1,od1,.func (PySem.W.fnOf "is_name" "is_name" (defArgs s_is_name) (defBody s_is_name) (defScope s_is_name) .none kV1 dc1 pm1 an1 cd1 ct1),sl1⟩) (c1:PySem.W.codeIn K cd1 "is_name"=true) (k1:PySem.W.keepIn K (.ref f1)=true)
  (a2:PySem.W.nsIn K mainGlobals "is_whole"=some (some (.ref f2))) (l2:K.lookup f2=some ⟨oc2,od2,.func (PySem.W.fnOf "is_whole" "is_whole" (defArgs s_is_whole) (defBody s_is_whole) (defScope s_is_whole) .none kV2 dc2 pm2 an2 cd2 ct2),sl2⟩) (c2:PySem.W.codeIn K cd2 "is_whole"=true) (k2:PySem.W.keepIn K (.ref f2)=true)
  (a3:PySem.W.nsIn K mainGlobals "is_whole_from"=some (some (.ref f3))) (l3:K.lookup f3=some ⟨oc3,od3,.func (PySem.W.fnOf "is_whole_from" "is_whole_from" (defArgs s_is_whole_from) (defBody s_is_whole_from) (defScope s_is_whole_from) .none kV3 dc3 pm3 an3 cd3 ct3),sl3⟩) (c3:PySem.W.codeIn K cd3 "is_whole_from"=true) (k3:PySem.W.keepIn K (.ref f3)=true)
  (a4:PySem.W.nsIn K mainGlobals "neighbours"=some (some (.ref f4))) (l4:K.lookup f4=some ⟨oc4,od4,.func (PySem.W.fnOf "neighbours" "neighbours" (defArgs s_neighbours) (defBody s_neighbours) (defScope s_neighbours) .none kV4 dc4 pm4 an4 cd4 ct4),sl4⟩) (c4:PySem.W.codeIn K cd4 "neighbours"=true) (k4:PySem.W.keepIn K (.ref f4)=true)
  (a5:PySem.W.nsIn K mainGlobals "fars"=some (some (.ref f5))) (l5:K.lookup f5=some ⟨oc5,od5,.func (PySem.W.fnOf "fars" "fars" (defArgs s_fars) (defBody s_fars) (defScope s_fars) .none kV5 dc5 pm5 an5 cd5 ct5),sl5⟩) (c5:PySem.W.codeIn K cd5 "fars"=true) (k5:PySem.W.keepIn K (.ref f5)=true)
  (a6:PySem.W.nsIn K mainGlobals "site_fars"=some (some (.ref f6))) (l6:K.lookup f6=some ⟨oc6,od6,.func (PySem.W.fnOf "site_fars" "site_fars" (defArgs s_site_fars) (defBody s_site_fars) (defScope s_site_fars) .none kV6 dc6 pm6 an6 cd6 ct6),sl6⟩) (c6:PySem.W.codeIn K cd6 "site_fars"=true) (k6:PySem.W.keepIn K (.ref f6)=true)
  (a7:PySem.W.nsIn K mainGlobals "nearest"=some (some (.ref f7))) (l7:K.lookup f7=some ⟨oc7,od7,.func (PySem.W.fnOf "nearest" "nearest" (defArgs s_nearest) (defBody s_nearest) (defScope s_nearest) .none kV7 dc7 pm7 an7 cd7 ct7),sl7⟩) (c7:PySem.W.codeIn K cd7 "nearest"=true) (k7:PySem.W.keepIn K (.ref f7)=true)
  (a8:PySem.W.nsIn K mainGlobals "are_folk_rows"=some (some (.ref f8))) (l8:K.lookup f8=some ⟨oc8,od8,.func (PySem.W.fnOf "are_folk_rows" "are_folk_rows" (defArgs s_are_folk_rows) (defBody s_are_folk_rows) (defScope s_are_folk_rows) .none kV8 dc8 pm8 an8 cd8 ct8),sl8⟩) (c8:PySem.W.codeIn K cd8 "are_folk_rows"=true) (k8:PySem.W.keepIn K (.ref f8)=true)
  (a9:PySem.W.nsIn K mainGlobals "are_rows"=some (some (.ref f9))) (l9:K.lookup f9=some ⟨oc9,od9,.func (PySem.W.fnOf "are_rows" "are_rows" (defArgs s_are_rows) (defBody s_are_rows) (defScope s_are_rows) .none kV9 dc9 pm9 an9 cd9 ct9),sl9⟩) (c9:PySem.W.codeIn K cd9 "are_rows"=true) (k9:PySem.W.keepIn K (.ref f9)=true)
  (a10:PySem.W.nsIn K mainGlobals "is_row_of"=some (some (.ref f10))) (l10:K.lookup f10=some ⟨oc10,od10,.func (PySem.W.fnOf "is_row_of" "is_row_of" (defArgs s_is_row_of) (defBody s_is_row_of) (defScope s_is_row_of) .none kV10 dc10 pm10 an10 cd10 ct10),sl10⟩) (c10:PySem.W.codeIn K cd10 "is_row_of"=true) (k10:PySem.W.keepIn K (.ref f10)=true)
  (a11:PySem.W.nsIn K mainGlobals "gets_from"=some (some (.ref f11))) (l11:K.lookup f11=some ⟨oc11,od11,.func (PySem.W.fnOf "gets_from" "gets_from" (defArgs s_gets_from) (defBody s_gets_from) (defScope s_gets_from) .none kV11 dc11 pm11 an11 cd11 ct11),sl11⟩) (c11:PySem.W.codeIn K cd11 "gets_from"=true) (k11:PySem.W.keepIn K (.ref f11)=true)
  (a12:PySem.W.nsIn K mainGlobals "stand"=some (some (.ref f12))) (l12:K.lookup f12=some ⟨oc12,od12,.func (PySem.W.fnOf "stand" "stand" (defArgs s_stand) (defBody s_stand) (defScope s_stand) .none kV12 dc12 pm12 an12 cd12 ct12),sl12⟩) (c12:PySem.W.codeIn K cd12 "stand"=true) (k12:PySem.W.keepIn K (.ref f12)=true)
  (a13:PySem.W.nsIn K mainGlobals "stand_by"=some (some (.ref f13))) (l13:K.lookup f13=some ⟨oc13,od13,.func (PySem.W.fnOf "stand_by" "stand_by" (defArgs s_stand_by) (defBody s_stand_by) (defScope s_stand_by) .none kV13 dc13 pm13 an13 cd13 ct13),sl13⟩) (c13:PySem.W.codeIn K cd13 "stand_by"=true) (k13:PySem.W.keepIn K (.ref f13)=true)
  (a14:PySem.W.nsIn K mainGlobals "are_prices"=some (some (.ref f14))) (l14:K.lookup f14=some ⟨oc14,od14,.func (PySem.W.fnOf "are_prices" "are_prices" (defArgs s_are_prices) (defBody s_are_prices) (defScope s_are_prices) .none kV14 dc14 pm14 an14 cd14 ct14),sl14⟩) (c14:PySem.W.codeIn K cd14 "are_prices"=true) (k14:PySem.W.keepIn K (.ref f14)=true)
  (a15:PySem.W.nsIn K mainGlobals "is_levy"=some (some (.ref f15))) (l15:K.lookup f15=some ⟨oc15,od15,.func (PySem.W.fnOf "is_levy" "is_levy" (defArgs s_is_levy) (defBody s_is_levy) (defScope s_is_levy) .none kV15 dc15 pm15 an15 cd15 ct15),sl15⟩) (c15:PySem.W.codeIn K cd15 "is_levy"=true) (k15:PySem.W.keepIn K (.ref f15)=true)
  (a16:PySem.W.nsIn K mainGlobals "_law_pen"=some (some (.ref f16))) (l16:K.lookup f16=some ⟨oc16,od16,.func (PySem.W.fnOf "_law_pen" "_law_pen" (defArgs s_law_pen) (defBody s_law_pen) (defScope s_law_pen) .none kV16 dc16 pm16 an16 cd16 ct16),sl16⟩) (c16:PySem.W.codeIn K cd16 "_law_pen"=true) (k16:PySem.W.keepIn K (.ref f16)=true)
  (a17:PySem.W.nsIn K mainGlobals "_law_take"=some (some (.ref f17))) (l17:K.lookup f17=some ⟨oc17,od17,.func (PySem.W.fnOf "_law_take" "_law_take" (defArgs s_law_take) (defBody s_law_take) (defScope s_law_take) .none kV17 dc17 pm17 an17 cd17 ct17),sl17⟩) (c17:PySem.W.codeIn K cd17 "_law_take"=true) (k17:PySem.W.keepIn K (.ref f17)=true)
  (a18:PySem.W.nsIn K mainGlobals "_law_names"=some (some (.ref f18))) (l18:K.lookup f18=some ⟨oc18,od18,.func (PySem.W.fnOf "_law_names" "_law_names" (defArgs s_law_names) (defBody s_law_names) (defScope s_law_names) .none kV18 dc18 pm18 an18 cd18 ct18),sl18⟩) (c18:PySem.W.codeIn K cd18 "_law_names"=true) (k18:PySem.W.keepIn K (.ref f18)=true)
  (a19:PySem.W.nsIn K mainGlobals "_law_ways"=some (some (.ref f19))) (l19:K.lookup f19=some ⟨oc19,od19,.func (PySem.W.fnOf "_law_ways" "_law_ways" (defArgs s_law_ways) (defBody s_law_ways) (defScope s_law_ways) .none kV19 dc19 pm19 an19 cd19 ct19),sl19⟩) (c19:PySem.W.codeIn K cd19 "_law_ways"=true) (k19:PySem.W.keepIn K (.ref f19)=true)
  (a20:PySem.W.nsIn K mainGlobals "_law_some"=some (some (.ref f20))) (l20:K.lookup f20=some ⟨oc20,od20,.func (PySem.W.fnOf "_law_some" "_law_some" (defArgs s_law_some) (defBody s_law_some) (defScope s_law_some) .none kV20 dc20 pm20 an20 cd20 ct20),sl20⟩) (c20:PySem.W.codeIn K cd20 "_law_some"=true) (k20:PySem.W.keepIn K (.ref f20)=true)
  (a21:PySem.W.nsIn K mainGlobals "_law_case"=some (some (.ref f21))) (l21:K.lookup f21=some ⟨oc21,od21,.func (PySem.W.fnOf "_law_case" "_law_case" (defArgs s_law_case) (defBody s_law_case) (defScope s_law_case) .none kV21 dc21 pm21 an21 cd21 ct21),sl21⟩) (c21:PySem.W.codeIn K cd21 "_law_case"=true) (k21:PySem.W.keepIn K (.ref f21)=true)
  (a22:PySem.W.nsIn K mainGlobals "_law_fars"=some (some (.ref f22))) (l22:K.lookup f22=some ⟨oc22,od22,.func (PySem.W.fnOf "_law_fars" "_law_fars" (defArgs s_law_fars) (defBody s_law_fars) (defScope s_law_fars) .none kV22 dc22 pm22 an22 cd22 ct22),sl22⟩) (c22:PySem.W.codeIn K cd22 "_law_fars"=true) (k22:PySem.W.keepIn K (.ref f22)=true)
  (a23:PySem.W.nsIn K mainGlobals "_law_gets"=some (some (.ref f23))) (l23:K.lookup f23=some ⟨oc23,od23,.func (PySem.W.fnOf "_law_gets" "_law_gets" (defArgs s_law_gets) (defBody s_law_gets) (defScope s_law_gets) .none kV23 dc23 pm23 an23 cd23 ct23),sl23⟩) (c23:PySem.W.codeIn K cd23 "_law_gets"=true) (k23:PySem.W.keepIn K (.ref f23)=true)
  (a24:PySem.W.nsIn K mainGlobals "_law_raised"=some (some (.ref f24))) (l24:K.lookup f24=some ⟨oc24,od24,.func (PySem.W.fnOf "_law_raised" "_law_raised" (defArgs s_law_raised) (defBody s_law_raised) (defScope s_law_raised) .none kV24 dc24 pm24 an24 cd24 ct24),sl24⟩) (c24:PySem.W.codeIn K cd24 "_law_raised"=true) (k24:PySem.W.keepIn K (.ref f24)=true)
  (a25:PySem.W.nsIn K mainGlobals "_law_prices"=some (some (.ref f25))) (l25:K.lookup f25=some ⟨oc25,od25,.func (PySem.W.fnOf "_law_prices" "_law_prices" (defArgs s_law_prices) (defBody s_law_prices) (defScope s_law_prices) .none kV25 dc25 pm25 an25 cd25 ct25),sl25⟩) (c25:PySem.W.codeIn K cd25 "_law_prices"=true) (k25:PySem.W.keepIn K (.ref f25)=true)
  (a26:PySem.W.nsIn K mainGlobals "_law_odd_prices"=some (some (.ref f26))) (l26:K.lookup f26=some ⟨oc26,od26,.func (PySem.W.fnOf "_law_odd_prices" "_law_odd_prices" (defArgs s_law_odd_prices) (defBody s_law_odd_prices) (defScope s_law_odd_prices) .none kV26 dc26 pm26 an26 cd26 ct26),sl26⟩) (c26:PySem.W.codeIn K cd26 "_law_odd_prices"=true) (k26:PySem.W.keepIn K (.ref f26)=true)
  (a27:PySem.W.nsIn K mainGlobals "law"=some (some (.ref f27))) (l27:K.lookup f27=some ⟨oc27,od27,.func (PySem.W.fnOf "law" "law" (defArgs s_law) (defBody s_law) (defScope s_law) .none kV27 dc27 pm27 an27 cd27 ct27),sl27⟩) (c27:PySem.W.codeIn K cd27 "law"=true) (k27:PySem.W.keepIn K (.ref f27)=true)
  (z1:PySem.W.nsIn K mainGlobals "int"=some none) (z2:PySem.W.nsIn K mainGlobals "len"=some none) (z3:PySem.W.nsIn K mainGlobals "range"=some none) (z4:PySem.W.nsIn K mainGlobals "str"=some none) (z5:PySem.W.nsIn K mainGlobals "abs"=some none) (z6:PySem.W.nsIn K mainGlobals "sorted"=some none) (z7:PySem.W.nsIn K mainGlobals "tuple"=some none) (z8:PySem.W.nsIn K mainGlobals "list"=some none) (z9:PySem.W.nsIn K mainGlobals "min"=some none) (z10:PySem.W.nsIn K mainGlobals "dict"=some none) (z11:PySem.W.nsIn K mainGlobals "max"=some none) (z12:PySem.W.nsIn K mainGlobals "all"=some none) (z13:PySem.W.nsIn K mainGlobals "isinstance"=some none) (z14:PySem.W.nsIn K mainGlobals "zip"=some none) (z15:PySem.W.nsIn K mainGlobals "bool"=some none) (z16:PySem.W.nsIn K mainGlobals "sum"=some none) {tc1:Tok} (y1:PySem.W.nsIn K mainGlobals "MOST_LETTERS"=some (some (.int 6 tc1))) :
  ∃ fd:FuncData,(∀ (s:Shared) (v:Value),BindsTo s fd ⟨[v],[]⟩ [("_law_script",v)])/\∀ base:Heap,K.In base->base.Ns mainGlobals mg->FnOk l.prog w K mg base CX0 8 fa fd ["_law_script"] (spLaw K):=by
 have e:=hfa.symm.trans (PySem.W.mg_of X G a27)
 cases e
 have F1:=fun_mk (st:=s_is_name) l1 c1 k1
 have F2:=fun_mk (st:=s_is_whole) l2 c2 k2
 have F3:=fun_mk (st:=s_is_whole_from) l3 c3 k3
 have F4:=fun_mk (st:=s_neighbours) l4 c4 k4
 have F5:=fun_mk (st:=s_fars) l5 c5 k5
 have F6:=fun_mk (st:=s_site_fars) l6 c6 k6
 have F7:=fun_mk (st:=s_nearest) l7 c7 k7
 have F8:=fun_mk (st:=s_are_folk_rows) l8 c8 k8
 have F9:=fun_mk (st:=s_are_rows) l9 c9 k9
 have F10:=fun_mk (st:=s_is_row_of) l10 c10 k10
 have F11:=fun_mk (st:=s_gets_from) l11 c11 k11
 have F12:=fun_mk (st:=s_stand) l12 c12 k12
 have F13:=fun_mk (st:=s_stand_by) l13 c13 k13
 have F14:=fun_mk (st:=s_are_prices) l14 c14 k14
 have F15:=fun_mk (st:=s_is_levy) l15 c15 k15
 have F16:=fun_mk (st:=s_law_pen) l16 c16 k16
 have F17:=fun_mk (st:=s_law_take) l17 c17 k17
 have F18:=fun_mk (st:=s_law_names) l18 c18 k18
 have F19:=fun_mk (st:=s_law_ways) l19 c19 k19
 have F20:=fun_mk (st:=s_law_some) l20 c20 k20
 have F21:=fun_mk (st:=s_law_case) l21 c21 k21
 have F22:=fun_mk (st:=s_law_fars) l22 c22 k22
 have F23:=fun_mk (st:=s_law_gets) l23 c23 k23
 have F24:=fun_mk (st:=s_law_raised) l24 c24 k24
 have F25:=fun_mk (st:=s_law_prices) l25 c25 k25
 have F26:=fun_mk (st:=s_law_odd_prices) l26 c26 k26
 have F27:=fun_mk (st:=s_law) l27 c27 k27
 have b1:=F1.binds (ps:=["thing"]) fun _ _ _ _ _ _ us hl=>by obtain ⟨x,rfl⟩:=len1 hl; rfl
 have b2:=F2.binds (ps:=["thing"]) fun _ _ _ _ _ _ us hl=>by obtain ⟨x,rfl⟩:=len1 hl; rfl
 have b3:=F3.binds (ps:=["thing","least"]) fun _ _ _ _ _ _ us hl=>by obtain ⟨x,y,rfl⟩:=len2 hl; rfl
 have b4:=F4.binds (ps:=["web"]) fun _ _ _ _ _ _ us hl=>by obtain ⟨x,rfl⟩:=len1 hl; rfl
 have b5:=F5.binds (ps:=["web","place"]) fun _ _ _ _ _ _ us hl=>by obtain ⟨x,y,rfl⟩:=len2 hl; rfl
 have b6:=F6.binds (ps:=["case"]) fun _ _ _ _ _ _ us hl=>by obtain ⟨x,rfl⟩:=len1 hl; rfl
 have b7:=F7.binds (ps:=["web","starts"]) fun _ _ _ _ _ _ us hl=>by obtain ⟨x,y,rfl⟩:=len2 hl; rfl
 have b8:=F8.binds (ps:=["case","thing"]) fun _ _ _ _ _ _ us hl=>by obtain ⟨x,y,rfl⟩:=len2 hl; rfl
 have b9:=F9.binds (ps:=["thing","places"]) fun _ _ _ _ _ _ us hl=>by obtain ⟨x,y,rfl⟩:=len2 hl; rfl
 have b10:=F10.binds (ps:=["row","place"]) fun _ _ _ _ _ _ us hl=>by obtain ⟨x,y,rfl⟩:=len2 hl; rfl
 have b11:=F11.binds (ps:=["case","prices","away"]) fun _ _ _ _ _ _ us hl=>by obtain ⟨x,y,z,rfl⟩:=len3 hl; rfl
 have b12:=F12.binds (ps:=["case","prices","levy"]) fun _ _ _ _ _ _ us hl=>by obtain ⟨x,y,z,rfl⟩:=len3 hl; rfl
 have b13:=F13.binds (ps:=["case","aways","prices","levy"]) fun _ _ _ _ _ _ us hl=>by obtain ⟨x,y,z,u,rfl⟩:=len4 hl; rfl
 have b14:=F14.binds (ps:=["case","thing"]) fun _ _ _ _ _ _ us hl=>by obtain ⟨x,y,rfl⟩:=len2 hl; rfl
 have b15:=F15.binds (ps:=["case","thing"]) fun _ _ _ _ _ _ us hl=>by obtain ⟨x,y,rfl⟩:=len2 hl; rfl
 have b16:=F16.binds (ps:=["_law_script","_law_k"]) fun _ _ _ _ _ _ us hl=>by obtain ⟨x,y,rfl⟩:=len2 hl; rfl
 have b17:=F17.binds (ps:=["_law_pen_here","_law_many"]) fun _ _ _ _ _ _ us hl=>by obtain ⟨x,y,rfl⟩:=len2 hl; rfl
 have b18:=F18.binds (ps:=["_law_pen_here","_law_many"]) fun _ _ _ _ _ _ us hl=>by obtain ⟨x,y,rfl⟩:=len2 hl; rfl
 have b19:=F19.binds (ps:=["_law_pen_here","_law_names_here","_law_kind"]) fun _ _ _ _ _ _ us hl=>by obtain ⟨x,y,z,rfl⟩:=len3 hl; rfl
 have b20:=F20.binds (ps:=["_law_pen_here","_law_names_here","_law_most"]) fun _ _ _ _ _ _ us hl=>by obtain ⟨x,y,z,rfl⟩:=len3 hl; rfl
 have b21:=F21.binds (ps:=["_law_pen_here","_law_kind"]) fun _ _ _ _ _ _ us hl=>by obtain ⟨x,y,rfl⟩:=len2 hl; rfl
 have b22:=F22.binds (ps:=["_law_case_here"]) fun _ _ _ _ _ _ us hl=>by obtain ⟨x,rfl⟩:=len1 hl; rfl
 have b23:=F23.binds (ps:=["_law_case_here","_law_away","_law_prices_here","_law_site"]) fun _ _ _ _ _ _ us hl=>by obtain ⟨x,y,z,u,rfl⟩:=len4 hl; rfl
 have b24:=F24.binds (ps:=["_law_case_here","_law_away","_law_prices_here","_law_levy","_law_at"]) fun _ _ _ _ _ _ us hl=>by obtain ⟨x,y,z,u,v,rfl⟩:=len5 hl; rfl
 have b25:=F25.binds (ps:=["_law_pen_here","_law_case_here","_law_away","_law_levy"]) fun _ _ _ _ _ _ us hl=>by obtain ⟨x,y,z,u,rfl⟩:=len4 hl; rfl
 have b26:=F26.binds (ps:=["_law_prices_here","_law_at"]) fun _ _ _ _ _ _ us hl=>by obtain ⟨x,y,rfl⟩:=len2 hl; rfl
 exact ⟨PySem.W.fnOf "law" "law" (defArgs s_law) (defBody s_law) (defScope s_law) .none kV27 dc27 pm27 an27 cd27 ct27,fun s v=>.of_eq rfl,fun base _ _=>
  ok_law (PySem.W.mg_none_of X G z1) (PySem.W.mg_none_of X G z2) (PySem.W.mg_none_of X G z3) (PySem.W.mg_none_of X G z4) ⟨F16,(PySem.W.mg_of X G a16),b16⟩ (ok_law_pen (PySem.W.mg_none_of X G z5) (PySem.W.mg_none_of X G z2) F16) ⟨F17,(PySem.W.mg_of X G a17),b17⟩ (ok_law_take F17) ⟨F21,(PySem.W.mg_of X G a21),b21⟩ (ok_law_case (PySem.W.mg_none_of X G z1) (PySem.W.mg_none_of X G z2) (PySem.W.mg_none_of X G z6) (PySem.W.mg_none_of X G z7) ⟨F17,(PySem.W.mg_of X G a17),b17⟩ (ok_law_take F17) ⟨F18,(PySem.W.mg_of X G a18),b18⟩ (ok_law_names (PySem.W.mg_none_of X G z2) (PySem.W.mg_none_of X G z3) ⟨F17,(PySem.W.mg_of X G a17),b17⟩ (ok_law_take F17) F18) ⟨F19,(PySem.W.mg_of X G a19),b19⟩ (ok_law_ways (PySem.W.mg_none_of X G z1) (PySem.W.mg_none_of X G z2) (PySem.W.mg_none_of X G z3) (PySem.W.mg_none_of X G z6) (PySem.W.mg_none_of X G z7) ⟨F17,(PySem.W.mg_of X G a17),b17⟩ (ok_law_take F17) F19) ⟨F20,(PySem.W.mg_of X G a20),b20⟩ (ok_law_some (PySem.W.mg_none_of X G z2) (PySem.W.mg_none_of X G z8) (PySem.W.mg_none_of X G z9) (PySem.W.mg_none_of X G z3) ⟨F17,(PySem.W.mg_of X G a17),b17⟩ (ok_law_take F17) F20) F21) ⟨F22,(PySem.W.mg_of X G a22),b22⟩ (ok_law_fars (PySem.W.mg_none_of X G z1) F22) ⟨F25,(PySem.W.mg_of X G a25),b25⟩ (ok_law_prices (PySem.W.mg_none_of X G z2) (PySem.W.mg_none_of X G z8) (PySem.W.mg_none_of X G z3) (PySem.W.mg_none_of X G z7) ⟨F17,(PySem.W.mg_of X G a17),b17⟩ (ok_law_take F17) ⟨F24,(PySem.W.mg_of X G a24),b24⟩ (ok_law_raised (PySem.W.mg_none_of X G z10) (PySem.W.mg_none_of X G z11) (PySem.W.mg_none_of X G z9) ⟨F23,(PySem.W.mg_of X G a23),b23⟩ (ok_law_gets (PySem.W.mg_none_of X G z10) (PySem.W.mg_none_of X G z11) F23) F24) F25) ⟨F12,(PySem.W.mg_of X G a12),b12⟩ (ok_stand ⟨F14,(PySem.W.mg_of X G a14),b14⟩ (ok_are_prices (PySem.W.mg_none_of X G z12) ⟨F8,(PySem.W.mg_of X G a8),b8⟩ (ok_are_folk_rows ⟨F9,(PySem.W.mg_of X G a9),b9⟩ (ok_are_rows (PySem.W.mg_none_of X G z12) (PySem.W.mg_none_of X G z13) (PySem.W.mg_none_of X G z2) (PySem.W.mg_none_of X G z7) (PySem.W.mg_none_of X G z14) ⟨F10,(PySem.W.mg_of X G a10),b10⟩ (ok_is_row_of (PySem.W.mg_none_of X G z13) (PySem.W.mg_none_of X G z2) (PySem.W.mg_none_of X G z7) ⟨F1,(PySem.W.mg_of X G a1),b1⟩ (ok_name ⟨(PySem.W.mg_none_of X G z2),(PySem.W.mg_none_of X G z13),(PySem.W.mg_none_of X G z4),(PySem.W.mg_none_of X G z12),⟨_,PySem.W.mg_of X G y1⟩⟩ F1) F10) F9) F8) ⟨F3,(PySem.W.mg_of X G a3),b3⟩ (ok_is_whole_from ⟨F2,(PySem.W.mg_of X G a2),b2⟩ (ok_is_whole (PySem.W.mg_none_of X G z15) (PySem.W.mg_none_of X G z1) (PySem.W.mg_none_of X G z13) F2) F3) F14) ⟨F15,(PySem.W.mg_of X G a15),b15⟩ (ok_is_levy ⟨F3,(PySem.W.mg_of X G a3),b3⟩ (ok_is_whole_from ⟨F2,(PySem.W.mg_of X G a2),b2⟩ (ok_is_whole (PySem.W.mg_none_of X G z15) (PySem.W.mg_none_of X G z1) (PySem.W.mg_none_of X G z13) F2) F3) F15) ⟨F6,(PySem.W.mg_of X G a6),b6⟩ (ok_site_fars ⟨F5,(PySem.W.mg_of X G a5),b5⟩ (ok_fars ⟨⟨F4,(PySem.W.mg_of X G a4),b4⟩,(PySem.W.mg_none_of X G z9),F7,(PySem.W.mg_of X G a7),b7⟩ F5) F6) ⟨F13,(PySem.W.mg_of X G a13),b13⟩ (ok_stand_by (PySem.W.mg_none_of X G z12) ⟨F11,(PySem.W.mg_of X G a11),b11⟩ (ok_gets_from (PySem.W.mg_none_of X G z10) (PySem.W.mg_none_of X G z11) (PySem.W.mg_none_of X G z16) F11) F13) F12) ⟨F26,(PySem.W.mg_of X G a26),b26⟩ (ok_law_odd_prices (PySem.W.mg_none_of X G z2) (PySem.W.mg_none_of X G z8) (PySem.W.mg_none_of X G z4) F26) F27⟩
theorem scr_of {K:PySem.W.Frag} {H:Hp} {a:Addr} {xs:List V} (o:Only H) (h:SqL K H a xs):Scr K H a xs:=by
 rcases h with (h | ⟨ob,h⟩) | h
 ·rcases o a with z | ⟨ob,ys,z⟩ <;> (rw [h] at z; cases z)
 ·exact .inl ⟨ob,h⟩
 ·exact .inr h
theorem walk {l:PySem.W.OpenLaw} {q:Program} {loose:List Str} {XP:(Str->Option Value)->Heap->Prop} {YP:World->Heap->Prop} {d:DefRec} {K:Params->PySem.W.Frag} (hn:l.most=some 63) (hdf:d.params.defaults=[])
  (hY:∀ (w:World) (h:Heap),YP w h->(K w.params).In h)
  (F:∀ (w:World) (mg:Str->Option Value) (fa:Addr) (h:Heap),(K w.params).In h->h.Ns mainGlobals mg->mg d.name=some (.ref fa) ->
   ∃ fd:FuncData,(∀ (s:Shared) (u:Value),BindsTo s fd ⟨[u],[]⟩ [("_law_script",u)])/\∀ base:Heap,(K w.params).In base->base.Ns mainGlobals mg->FnOk l.prog w (K w.params) mg base CX0 8 fa fd ["_law_script"] (spLaw (K w.params))) :
  PySem.W.WalkO q loose XP YP l.row.toRowW d [] (fun f vs=>PySem.call f vs):=
 L2.walk_of (n:=63) (k:=8) (x:="_law_script") (CX:=fun _=>CX0) (sp:=fun w=>spLaw (K w.params)) hn (by decide) hdf ⟨rfl,by decide,by decide,rfl⟩ hY F (fun _ _ a ns hl ho hS=>⟨a,ns,rfl,scr_of ho hS,hl,fun _=>rfl⟩) fun _ _ _ _ _ z=>z
end K17
namespace PySem.W.Fast
theorem tw6576282737778129384:True:=⟨⟩
theorem tw6672258201146124184:True:=⟨⟩
theorem tw1663589571533611629:True:=⟨⟩
theorem tw16001098504220854228:True:=⟨⟩
theorem tw12813589651735210462:True:=⟨⟩
theorem tw11041335639336275477:True:=⟨⟩
theorem tw3945820911709042326:True:=⟨⟩
theorem tw14930980016956672721:True:=⟨⟩
theorem tw14000958852668916770:True:=⟨⟩
theorem tw9854765137574492500:True:=⟨⟩
theorem tw14139131608869956559:True:=⟨⟩
theorem tw12845278364948251528:True:=⟨⟩
theorem tw1666637031253316475:True:=⟨⟩
theorem tw7200074479059593845:True:=⟨⟩
theorem tw16265523431331568084:True:=⟨⟩
theorem tw10845376239089338908:True:=⟨⟩
theorem tw6268754980978161925:True:=⟨⟩
theorem tw8224052383540566725:True:=⟨⟩
theorem tw9623667723600457141:True:=⟨⟩
theorem tw2772504892515753514:True:=⟨⟩
theorem tw4428801902358664550:True:=⟨⟩
theorem tw7611840925020710686:True:=⟨⟩
theorem tw12591116535391800257:True:=⟨⟩
theorem tw7137587188857986683:True:=⟨⟩
theorem tw7599894587065778771:True:=⟨⟩
theorem tw1782755526687941835:True:=⟨⟩
theorem tw6714815457936974840:True:=⟨⟩
theorem tw11891413133942645829:True:=⟨⟩
theorem tw4219776329949672673:True:=⟨⟩
theorem tw17000380688290462775:True:=⟨⟩
theorem tw17892345727714163980:True:=⟨⟩
theorem tw998918369157520579:True:=⟨⟩
theorem tw12587496880224577362:True:=⟨⟩
theorem tw10222415760252640429:True:=⟨⟩
theorem tw6078501571130603087:True:=⟨⟩
theorem tw82165644734912617:True:=⟨⟩
theorem tw4157967505964596862:True:=⟨⟩
theorem tw11198890568260709784:True:=⟨⟩
theorem tw16114833148026879028:True:=⟨⟩
theorem tw13193953334564177286:True:=⟨⟩
theorem tw15949217011397518565:True:=⟨⟩
theorem tw10309898550002786950:True:=⟨⟩
theorem tw15071126562082642096:True:=⟨⟩
theorem tw2100863615658904825:True:=⟨⟩
theorem tw4758923345590117723:True:=⟨⟩
theorem tw8238323839179311749:True:=⟨⟩
theorem tw836500255916102912:True:=⟨⟩
theorem tw11139964385707413425:True:=⟨⟩
theorem tw17260658993800753205:True:=⟨⟩
theorem tw16533266336157151199:True:=⟨⟩
theorem tw11112039343184004540:True:=⟨⟩
theorem tw13658712463208824497:True:=⟨⟩
theorem tw17528359974373607261:True:=⟨⟩
theorem tw7276315368817920275:True:=⟨⟩
theorem tw2243600356568833686:True:=⟨⟩
theorem tw12414787569162180298:True:=⟨⟩
theorem tw12771802677090858752:True:=⟨⟩
theorem tw8556808110921679814:True:=⟨⟩
theorem tw16164110179661856550:True:=⟨⟩
theorem tw13588379175347447343:True:=⟨⟩
theorem tw9603721881480536661:True:=⟨⟩
theorem tw16383171605704626955:True:=⟨⟩
theorem tw18355616287724872367:True:=⟨⟩
theorem tw7209519418016769720:True:=⟨⟩
theorem tw18386322445897886278:True:=⟨⟩
theorem tw6387569591136676928:True:=⟨⟩
theorem tw1353711573261918080:True:=⟨⟩
theorem tw7883493024882826861:True:=⟨⟩
theorem tw16279062626371910458:True:=⟨⟩
theorem tw14752806566364716890:True:=⟨⟩
theorem tw4297961328037006011:True:=⟨⟩
theorem tw4747381022040102555:True:=⟨⟩
theorem tw5957055760271003856:True:=⟨⟩
theorem tw12517193846858878410:True:=⟨⟩
theorem tw9979800504493864503:True:=⟨⟩
theorem tw9496093790744703950:True:=⟨⟩
theorem tw12817065458504149542:True:=⟨⟩
theorem tw10197223621051821093:True:=⟨⟩
theorem tw4373553448009042648:True:=⟨⟩
theorem tw14171767554076785948:True:=⟨⟩
theorem tw552508672251558668:True:=⟨⟩
theorem tw3390826417588209059:True:=⟨⟩
theorem tw18201388004927724976:True:=⟨⟩
theorem tw14667839005740460837:True:=⟨⟩
theorem tw12467273113472090278:True:=⟨⟩
theorem tw7279337802817191528:True:=⟨⟩
theorem tw15413687661296780717:True:=⟨⟩
theorem tw15825562143747221746:True:=⟨⟩
theorem tw138789850861343320:True:=⟨⟩
theorem tw7406281111840098980:True:=⟨⟩
theorem tw5301104643641212670:True:=⟨⟩
theorem tw12943709171610056528:True:=⟨⟩
theorem tw13009052671375454389:True:=⟨⟩
theorem tw8695931624885644399:True:=⟨⟩
theorem tw8196178431673782828:True:=⟨⟩
end PySem.W.Fast
open PySem PySem.W PyProof.Rows
set_option maxRecDepth 100000 in
set_option maxHeartbeats 0 in
theorem PySem.Challenge.cw_openhouses_k17_things_that_are_no_prices_holds : PySem.Challenge.rw_openhouses_k17_things_that_are_no_prices.Holds := by
 w_on; o_law; k_head; (case hw=>w_witness2)
 k_fill
 refine K17.walk (l:=PySem.Challenge.rw_openhouses_k17_things_that_are_no_prices) rfl rfl (fun w h Y=>PySem.W.kIn_of Y) ?F
 case F=>
  intro w mg fa h KX G hmg
  refine' K17.all_mk KX G hmg ?a1 ?l1 ?c1 ?k1 ?a2 ?l2 ?c2 ?k2 ?a3 ?l3 ?c3 ?k3 ?a4 ?l4 ?c4 ?k4 ?a5 ?l5 ?c5 ?k5 ?a6 ?l6 ?c6 ?k6 ?a7 ?l7 ?c7 ?k7 ?a8 ?l8 ?c8 ?k8 ?a9 ?l9 ?c9 ?k9 ?a10 ?l10 ?c10 ?k10 ?a11 ?l11 ?c11 ?k11 ?a12 ?l12 ?c12 ?k12 ?a13 ?l13 ?c13 ?k13 ?a14 ?l14 ?c14 ?k14 ?a15 ?l15 ?c15 ?k15 ?a16 ?l16 ?c16 ?k16 ?a17 ?l17 ?c17 ?k17 ?a18 ?l18 ?c18 ?k18 ?a19 ?l19 ?c19 ?k19 ?a20 ?l20 ?c20 ?k20 ?a21 ?l21 ?c21 ?k21 ?a22 ?l22 ?c22 ?k22 ?a23 ?l23 ?c23 ?k23 ?a24 ?l24 ?c24 ?k24 ?a25 ?l25 ?c25 ?k25 ?a26 ?l26 ?c26 ?k26 ?a27 ?l27 ?c27 ?k27 ?z1 ?z2 ?z3 ?z4 ?z5 ?z6 ?z7 ?z8 ?z9 ?z10 ?z11 ?z12 ?z13 ?z14 ?z15 ?z16 ?y1
  (case a1=>k_is); (case l1=>k_is); (case c1=>k_is); (case k1=>k_is)
  (case a2=>k_is); (case l2=>k_is); (case c2=>k_is); (case k2=>k_is)
  (case a3=>k_is); (case l3=>k_is); (case c3=>k_is); (case k3=>k_is)
  (case a4=>k_is); (case l4=>k_is); (case c4=>k_is); (case k4=>k_is)
  (case a5=>k_is); (case l5=>k_is); (case c5=>k_is); (case k5=>k_is)
  (case a6=>k_is); (case l6=>k_is); (case c6=>k_is); (case k6=>k_is)
  (case a7=>k_is); (case l7=>k_is); (case c7=>k_is); (case k7=>k_is)
  (case a8=>k_is); (case l8=>k_is); (case c8=>k_is); (case k8=>k_is)
  (case a9=>k_is); (case l9=>k_is); (case c9=>k_is); (case k9=>k_is)
  (case a10=>k_is); (case l10=>k_is); (case c10=>k_is); (case k10=>k_is)
  (case a11=>k_is); (case l11=>k_is); (case c11=>k_is); (case k11=>k_is)
  (case a12=>k_is); (case l12=>k_is); (case c12=>k_is); (case k12=>k_is)
  (case a13=>k_is); (case l13=>k_is); (case c13=>k_is); (case k13=>k_is)
  (case a14=>k_is); (case l14=>k_is); (case c14=>k_is); (case k14=>k_is)
  (case a15=>k_is); (case l15=>k_is); (case c15=>k_is); (case k15=>k_is)
  (case a16=>k_is); (case l16=>k_is); (case c16=>k_is); (case k16=>k_is)
  (case a17=>k_is); (case l17=>k_is); (case c17=>k_is); (case k17=>k_is)
  (case a18=>k_is); (case l18=>k_is); (case c18=>k_is); (case k18=>k_is)
  (case a19=>k_is); (case l19=>k_is); (case c19=>k_is); (case k19=>k_is)
  (case a20=>k_is); (case l20=>k_is); (case c20=>k_is); (case k20=>k_is)
  (case a21=>k_is); (case l21=>k_is); (case c21=>k_is); (case k21=>k_is)
  (case a22=>k_is); (case l22=>k_is); (case c22=>k_is); (case k22=>k_is)
  (case a23=>k_is); (case l23=>k_is); (case c23=>k_is); (case k23=>k_is)
  (case a24=>k_is); (case l24=>k_is); (case c24=>k_is); (case k24=>k_is)
  (case a25=>k_is); (case l25=>k_is); (case c25=>k_is); (case k25=>k_is)
  (case a26=>k_is); (case l26=>k_is); (case c26=>k_is); (case k26=>k_is)
  (case a27=>k_is); (case l27=>k_is); (case c27=>k_is); (case k27=>k_is)
  (case z1=>k_is); (case z2=>k_is); (case z3=>k_is); (case z4=>k_is); (case z5=>k_is); (case z6=>k_is); (case z7=>k_is); (case z8=>k_is); (case z9=>k_is); (case z10=>k_is); (case z11=>k_is); (case z12=>k_is); (case z13=>k_is); (case z14=>k_is); (case z15=>k_is); (case z16=>k_is); (case y1=>k_is)
