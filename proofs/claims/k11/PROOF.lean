import PyProof.Rows.All
import Wide.All
import OpenK.AllK
import Wide.FinOn
import Lean
import PyProof.EqAt
import PyProof.EqKinds
import PyProof.TupleCall
import PyProof.P3Eq
import PyProof.NeData
import PyProof.P3In
import PySem.Challenge.RW_openhouses_k11_openings_known
set_option Elab.async false
set_option linter.all false
set_option maxRecDepth 100000
set_option maxHeartbeats 4000000
namespace L2
open PySem PySem.W PyProof.Rows
structure Swo (lt:Keyed->Keyed->Bool):Prop where
 irr:∀ a,lt a a=false
 tra:∀ a b c,lt a b=true->lt b c=true->lt a c=true
 neg:∀ a b c,lt a c=true->lt a b=true\/lt b c=true
def Nl (lt:Keyed->Keyed->Bool) (a b:Keyed):Prop:=lt b a=false
section
variable {lt:Keyed->Keyed->Bool}
theorem Swo.rfl' (h:Swo lt) (a:Keyed):Nl lt a a:=h.irr a
theorem Swo.of_lt (h:Swo lt) {a b:Keyed} (e:lt a b=true):Nl lt a b:=by
 unfold Nl
 cases z:lt b a
 ·rfl
 ·have:=h.tra _ _ _ e z
  rw [h.irr] at this
  cases this
theorem Swo.trans (h:Swo lt) {a b c:Keyed} (x:Nl lt a b) (y:Nl lt b c):Nl lt a c:=by
 unfold Nl at *
 cases z:lt c a
 ·rfl
 ·rcases h.neg _ b _ z with q | q
  ·rw [y] at q; cases q
  ·rw [x] at q; cases q
theorem Swo.lt_of' (h:Swo lt) {a b c:Keyed} (x:Nl lt a b) (y:lt b c=true):lt a c=true:=by
 unfold Nl at *
 rcases h.neg _ a _ y with q | q
 ·rw [x] at q; cases q
 ·exact q
end
def itA (xs:Array Keyed) (i:Nat):Keyed:=xs.getD i (Value.none,Value.none)
theorem itA_get {xs:Array Keyed} {i:Nat} (h:i < xs.size):xs[i]? = some (itA xs i):=by
 unfold itA
 simp [Array.getD,h]
theorem itA_eq {xs ys:Array Keyed} {i j:Nat} (h:xs[i]? = ys[j]?):itA xs i=itA ys j:=by
 unfold itA
 rw [Array.getD_eq_getD_getElem?,Array.getD_eq_getD_getElem?,h]
theorem itA_mem {xs:Array Keyed} {i:Nat} (h:i < xs.size):itA xs i ∈ xs:=Array.mem_of_getElem? (itA_get h)
def Ans (prog:Program) (w:World) (A:Around) (s:Shared) (κ:SortKind) (lt:Keyed->Keyed->Bool) (a0:Array Keyed):Prop:=
 ∀ x y,x ∈ a0->y ∈ a0->∀ (Q:Bool->Shared->Prop) (E:Value->Shared->Prop),Q (lt x y) s->wpAny (model prog w) A (keyLt' κ x.1 y.1) Q E s
section
variable {prog:Program} {w:World} {A:Around} {E:Value->Shared->Prop} {s:Shared} {κ:SortKind} {lt:Keyed->Keyed->Bool} {a0:Array Keyed}
theorem wpS_elemG {xs:Array Keyed} {i:Nat} {Q:Keyed->SortSt->Prop} {st:SortSt} (hi:i < xs.size) (h:Q (itA xs i) st):wpS (model prog w) A E s (elem' xs i) Q st:=by
 rw [elem'_eq,itA_get hi]
 exact wpS_pure h
theorem wpS_ltG {x y:Keyed} {Q:Option Bool->SortSt->Prop} {st:SortSt} (an:Ans prog w A s κ lt a0) (hk:kindOf st=κ) (hx:x ∈ a0) (hy:y ∈ a0) (h:Q (some (lt x y)) st) :
  wpS (model prog w) A E s (lt' x y) Q st:=by
 rw [lt'_eq]
 refine wpS_bind (wpS_get ?_)
 rw [hk]
 refine wpS_bind (wpS_lift (wpAny_attempt (an x y hx hy _ _ ⟨rfl,?_⟩)))
 exact wpS_pure h
theorem wpS_ltAtG {i j:Nat} {Q:Option Bool->SortSt->Prop} {st:SortSt} (an:Ans prog w A s κ lt a0) (hk:kindOf st=κ) (hp:(arrOf st).Perm a0) (hi:i < a0.size) (hj:j < a0.size)
  (h:Q (some (lt (itA (arrOf st) i) (itA (arrOf st) j))) st):wpS (model prog w) A E s (ltAt' i j) Q st:=by
 rw [ltAt'_eq]
 refine wpS_bind (wpS_get ?_)
 have e:=hp.size_eq
 refine wpS_bind (wpS_elemG (by (first|lia|omega)) (wpS_bind (wpS_elemG (by (first|lia|omega)) ?_)))
 exact wpS_ltG an hk ((Array.Perm.mem_iff hp).mp (itA_mem (by (first|lia|omega)))) ((Array.Perm.mem_iff hp).mp (itA_mem (by (first|lia|omega)))) h
def gallopG:Bool->Keyed->Array Keyed->Nat->Nat->Nat->StateT SortSt Sem (Option Nat):=sortPriv% PySem.Builtin.gallop
def byd (lt:Keyed->Keyed->Bool) (left:Bool) (key x:Keyed):Bool:=if left=true then lt x key else !(lt key x)
def askG (left:Bool) (key:Keyed) (arr:Array Keyed) (base i:Nat):StateT SortSt Sem (Option Bool):=do
 let x <- elem' arr (base + i)
 if left=true then lt' x key else do
  let r <- lt' key x
  pure (Option.map (fun b=>!b) r)
theorem wpS_askG {left:Bool} {key:Keyed} {arr:Array Keyed} {base i:Nat} {Q:Option Bool->SortSt->Prop} {st:SortSt} (an:Ans prog w A s κ lt a0) (hk:kindOf st=κ)
  (hkey:key ∈ a0) (hx:itA arr (base + i) ∈ a0) (hi:base + i < arr.size) (h:Q (some (byd lt left key (itA arr (base + i)))) st):wpS (model prog w) A E s (askG left key arr base i) Q st:=by
 unfold askG
 refine wpS_bind (wpS_elemG hi ?_)
 unfold byd at h
 cases left with
 | true=>
  simp only [if_true] at h ⊢
  exact wpS_ltG an hk hx hkey h
 | false=>
  simp only [Bool.false_eq_true,if_false] at h ⊢
  exact wpS_bind (wpS_ltG an hk hkey hx (wpS_pure h))
theorem wpS_narrowG {ρ:Type} {body:Nat->Option ρ × Nat × Nat->StateT SortSt Sem (ForInStep (Option ρ × Nat × Nat))} {f:Nat->Bool} {n lo hi:Nat} {st:SortSt}
  (hs:∀ x l (R:ForInStep (Option ρ × Nat × Nat)->SortSt->Prop),R (.done (none,l,l)) st->wpS (model prog w) A E s (body x (none,l,l)) R st)
  (hg:∀ x l r (R:ForInStep (Option ρ × Nat × Nat)->SortSt->Prop),l < r->r<=n ->
   (f (l + (r - l) / 2)=true->R (.yield (none,l + (r - l) / 2 + 1,r)) st)->(f (l + (r - l) / 2)=false->R (.yield (none,l,l + (r - l) / 2)) st)->wpS (model prog w) A E s (body x (none,l,r)) R st)
  (hl:lo<=hi) (hn:hi<=n) (mono:∀ i j,i<=j->j < n->f j=true->f i=true)
  (h1:∀ i,i < lo->f i=true) (h2:∀ i,hi<=i->i < n->f i=false) :
  wpS (model prog w) A E s (forIn [0:n] (none,lo,hi) body) (fun c st'=>st'=st/\∃ r,c=(none,r,r)/\r<=n/\(∀ i,i < r->f i=true)/\(∀ i,r<=i->i < n->f i=false)) st:=by
 refine wpS_forRange (I:=fun x c st'=>st'=st/\∃ l r,c=(none,l,r)/\l<=r/\r<=n/\r - l<=n - x/\(∀ i,i < l->f i=true)/\(∀ i,r<=i->i < n->f i=false)) ?_ ?_ ⟨rfl,lo,hi,rfl,hl,hn,by (first|lia|omega),h1,h2⟩
 ·rintro x c st' _ hx ⟨rfl,l,r,rfl,q1,q2,q3,q4,q5⟩
  by_cases hlr:l < r
  ·have hm:l + (r - l) / 2 < r:=by (first|lia|omega)
   refine hg _ _ _ _ hlr q2 (fun e=>?_) (fun e=>?_)
   ·exact ⟨rfl,_,r,rfl,by (first|lia|omega),by (first|lia|omega),by (first|lia|omega),fun i i1=>mono _ _ (by (first|lia|omega)) (by (first|lia|omega)) e,q5⟩
   ·refine ⟨rfl,l,_,rfl,by (first|lia|omega),by (first|lia|omega),by (first|lia|omega),q4,fun i i1 i2=>?_⟩
    cases z:f i
    ·rfl
    ·rw [mono _ _ i1 i2 z] at e; cases e
  ·have:l=r:=by (first|lia|omega)
   subst this
   exact hs _ _ _ ⟨rfl,l,rfl,q2,q4,q5⟩
 ·rintro c st' ⟨rfl,l,r,rfl,q1,q2,q3,q4,q5⟩
  have:l=r:=by (first|lia|omega)
  subst this
  exact ⟨rfl,l,rfl,q2,q4,q5⟩
theorem wpS_gallopG {left:Bool} {key:Keyed} {arr:Array Keyed} {base n hint:Nat} {Q:Option Nat->SortSt->Prop} {st:SortSt} (an:Ans prog w A s κ lt a0) (hk:kindOf st=κ)
  (hkey:key ∈ a0) (harr:∀ i,i < n->itA arr (base + i) ∈ a0) (hb:base + n<=arr.size) (hh:hint < n)
  (mono:∀ i j,i<=j->j < n->byd lt left key (itA arr (base + j))=true->byd lt left key (itA arr (base + i))=true)
  (h:∀ k,k<=n->(∀ i,i < k->byd lt left key (itA arr (base + i))=true)->(∀ i,k<=i->i < n->byd lt left key (itA arr (base + i))=false)->Q (some k) st) :
  wpS (model prog w) A E s (gallopG left key arr base n hint) Q st:=by
 have ha:∀ i (R:Option Bool->SortSt->Prop),i < n->R (some (byd lt left key (itA arr (base + i)))) st->wpS (model prog w) A E s (askG left key arr base i) R st:=
  fun i R hi hr=>wpS_askG an hk hkey (harr i hi) (by (first|lia|omega)) hr
 refine wpS_bind (ha hint _ hh ?_)
 dsimp only
 cases e:byd lt left key (itA arr (base + hint))
 ·simp only [Bool.false_eq_true,if_false]
  refine wpS_bind (wpS_mono (wpS_forRange (I:=fun x c st'=>st'=st/\∃ l o,c=(none,l,o)/\l<=hint/\l < o/\x + 1<=o/\byd lt left key (itA arr (base + (hint - l)))=false)
   (Q:=fun c st'=>st'=st/\∃ l o,c=(none,l,o)/\l<=hint/\l < o/\byd lt left key (itA arr (base + (hint - l)))=false/\(o < hint + 1->byd lt left key (itA arr (base + (hint - o)))=true)) ?_ ?_ ⟨rfl,0,1,rfl,by (first|lia|omega),by (first|lia|omega),by (first|lia|omega),e⟩) ?_)
  ·rintro x c st' _ hx ⟨rfl,l,o,rfl,q1,q2,q3,q4⟩
   dsimp only
   by_cases ho:o >= hint + 1
   ·rw [if_pos ho]
    exact wpS_pure ⟨rfl,l,o,rfl,q1,q2,q4,fun z=>by (first|lia|omega)⟩
   ·rw [if_neg ho]
    refine wpS_bind (ha _ _ (by (first|lia|omega)) ?_)
    cases e2:byd lt left key (itA arr (base + (hint - o)))
    ·simp only [Bool.false_eq_true,if_false]
     exact wpS_pure ⟨rfl,o,_,rfl,by (first|lia|omega),by (first|lia|omega),by (first|lia|omega),e2⟩
    ·simp only [if_true]
     exact wpS_pure ⟨rfl,l,o,rfl,q1,q2,q4,fun _=>e2⟩
  ·rintro c st' ⟨rfl,l,o,rfl,q1,q2,q3,q4⟩
   exact ⟨rfl,l,o,rfl,q1,q2,q4,fun z=>by (first|lia|omega)⟩
  ·rintro c st' ⟨rfl,l,o,rfl,q1,q2,q4,q5⟩
   dsimp only
   refine wpS_bind (wpS_mono (wpS_narrowG (f:=fun i=>byd lt left key (itA arr (base + i))) (n:=n) ?_ ?_ ?_ ?_ mono ?_ ?_) ?_)
   ·intro x l R hR
    dsimp only
    rw [if_pos (Nat.le_refl _)]
    exact wpS_pure hR
   ·intro x l r R hlr hrn y1 y2
    dsimp only
    rw [if_neg (by (first|lia|omega))]
    refine wpS_bind (ha _ _ (by (first|lia|omega)) ?_)
    cases e3:byd lt left key (itA arr (base + (l + (r - l) / 2)))
    ·exact wpS_pure (y2 e3)
    ·exact wpS_pure (y1 e3)
   ·(first|lia|omega)
   ·(first|lia|omega)
   rotate_right
   ·rintro c st2 ⟨rfl,r,rfl,z1,z2,z3⟩
    exact wpS_pure (h r z1 z2 z3)
   ·intro i hi
    by_cases ho:o < hint + 1
    ·exact mono _ _ (by (first|lia|omega)) (by (first|lia|omega)) (q5 ho)
    ·(first|lia|omega)
   ·intro i hi hi2
    cases z:byd lt left key (itA arr (base + i))
    ·rfl
    ·rw [mono _ _ hi hi2 z] at q4; cases q4
 ·simp only [if_true]
  refine wpS_bind (wpS_mono (wpS_forRange (I:=fun x c st'=>st'=st/\∃ l o,c=(none,l,o)/\hint + l < n/\l < o/\x + 1<=o/\byd lt left key (itA arr (base + (hint + l)))=true)
   (Q:=fun c st'=>st'=st/\∃ l o,c=(none,l,o)/\hint + l < n/\l < o/\byd lt left key (itA arr (base + (hint + l)))=true/\(o < n - hint->byd lt left key (itA arr (base + (hint + o)))=false)) ?_ ?_ ⟨rfl,0,1,rfl,by (first|lia|omega),by (first|lia|omega),by (first|lia|omega),e⟩) ?_)
  ·rintro x c st' _ hx ⟨rfl,l,o,rfl,q1,q2,q3,q4⟩
   dsimp only
   by_cases ho:o >= n - hint
   ·rw [if_pos ho]
    exact wpS_pure ⟨rfl,l,o,rfl,q1,q2,q4,fun z=>by (first|lia|omega)⟩
   ·rw [if_neg ho]
    refine wpS_bind (ha _ _ (by (first|lia|omega)) ?_)
    cases e2:byd lt left key (itA arr (base + (hint + o)))
    ·simp only [Bool.not_false,if_true]
     exact wpS_pure ⟨rfl,l,o,rfl,q1,q2,q4,fun _=>e2⟩
    ·simp only [Bool.not_true,Bool.false_eq_true,if_false]
     exact wpS_pure ⟨rfl,o,_,rfl,by (first|lia|omega),by (first|lia|omega),by (first|lia|omega),e2⟩
  ·rintro c st' ⟨rfl,l,o,rfl,q1,q2,q3,q4⟩
   exact ⟨rfl,l,o,rfl,q1,q2,q4,fun z=>by (first|lia|omega)⟩
  ·rintro c st' ⟨rfl,l,o,rfl,q1,q2,q4,q5⟩
   dsimp only
   refine wpS_bind (wpS_mono (wpS_narrowG (f:=fun i=>byd lt left key (itA arr (base + i))) (n:=n) ?_ ?_ ?_ ?_ mono ?_ ?_) ?_)
   ·intro x l R hR
    dsimp only
    rw [if_pos (Nat.le_refl _)]
    exact wpS_pure hR
   ·intro x l r R hlr hrn y1 y2
    dsimp only
    rw [if_neg (by (first|lia|omega))]
    refine wpS_bind (ha _ _ (by (first|lia|omega)) ?_)
    cases e3:byd lt left key (itA arr (base + (l + (r - l) / 2)))
    ·exact wpS_pure (y2 e3)
    ·exact wpS_pure (y1 e3)
   ·(first|lia|omega)
   ·(first|lia|omega)
   rotate_right
   ·rintro c st2 ⟨rfl,r,rfl,z1,z2,z3⟩
    exact wpS_pure (h r z1 z2 z3)
   ·intro i hi
    exact mono _ _ (by (first|lia|omega)) q1 q4
   ·intro i hi hi2
    by_cases ho:o < n - hint
    ·cases z:byd lt left key (itA arr (base + i))
     ·rfl
     ·rw [mono _ _ (by (first|lia|omega)) hi2 z] at q5
      exact absurd (q5 ho) (by simp)
    ·(first|lia|omega)
end
end L2
namespace L2
open PySem PySem.W PyProof.Rows
section lists
variable {lt:Keyed->Keyed->Bool}
structure ML (lt:Keyed->Keyed->Bool) (all out ra rb:List Keyed):Prop where
 perm:(out ++ (ra ++ rb)).Perm all
 so:out.Pairwise (Nl lt)
 sa:ra.Pairwise (Nl lt)
 sb:rb.Pairwise (Nl lt)
 le:∀ o ∈ out,∀ x,x ∈ ra\/x ∈ rb->Nl lt o x
theorem ML.takeA {all out l ra rb:List Keyed} (h:ML lt all out (l ++ ra) rb) (hl:∀ x ∈ l,∀ y ∈ rb,Nl lt x y):ML lt all (out ++ l) ra rb:=by
 have sa:=List.pairwise_append.mp h.sa
 refine ⟨?_,?_,sa.2.1,h.sb,?_⟩
 ·refine List.Perm.trans ?_ h.perm
  simp
 ·exact List.pairwise_append.mpr ⟨h.so,sa.1,fun o ho x hx=>h.le o ho x (.inl (List.mem_append_left _ hx))⟩
 ·intro o ho x hx
  rcases List.mem_append.mp ho with ho | ho
  ·exact h.le o ho x (hx.imp (fun z=>List.mem_append_right _ z) id)
  ·rcases hx with hx | hx
   ·exact sa.2.2 o ho x hx
   ·exact hl o ho x hx
theorem ML.turn {all out ra rb:List Keyed} (h:ML lt all out ra rb):ML lt all out rb ra:=
 ⟨List.Perm.trans (List.Perm.append_left _ List.perm_append_comm) h.perm,h.so,h.sb,h.sa,fun o ho x hx=>h.le o ho x hx.symm⟩
theorem ML.takeB {all out l ra rb:List Keyed} (h:ML lt all out ra (l ++ rb)) (hl:∀ x ∈ l,∀ y ∈ ra,Nl lt x y):ML lt all (out ++ l) ra rb:=(h.turn.takeA hl).turn
def Mrg (lt:Keyed->Keyed->Bool) (all:List Keyed) (r:Array Keyed):Prop:=r.toList.Pairwise (Nl lt)/\r.toList.Perm all
theorem ML.fin {all out ra rb:List Keyed} (h:ML lt all out ra rb) (hl:∀ x ∈ ra,∀ y ∈ rb,Nl lt x y) {r:Array Keyed} (e:r.toList=out ++ ra ++ rb):Mrg lt all r:=by
 refine ⟨?_,?_⟩
 ·rw [e,List.append_assoc]
  exact List.pairwise_append.mpr ⟨h.so,List.pairwise_append.mpr ⟨h.sa,h.sb,hl⟩,fun o ho x hx=>h.le o ho x (List.mem_append.mp hx)⟩
 ·rw [e,List.append_assoc]
  exact h.perm
structure MH (lt:Keyed->Keyed->Bool) (all out ra rb:List Keyed):Prop where
 perm:((ra ++ rb) ++ out).Perm all
 so:out.Pairwise (Nl lt)
 sa:ra.Pairwise (Nl lt)
 sb:rb.Pairwise (Nl lt)
 le:∀ o ∈ out,∀ x,x ∈ ra\/x ∈ rb->Nl lt x o
theorem MH.turn {all out ra rb:List Keyed} (h:MH lt all out ra rb):MH lt all out rb ra:=
 ⟨List.Perm.trans (List.Perm.append_right _ List.perm_append_comm) h.perm,h.so,h.sb,h.sa,fun o ho x hx=>h.le o ho x hx.symm⟩
theorem MH.takeB {all out l ra rb:List Keyed} (h:MH lt all out ra (rb ++ l)) (hl:∀ x ∈ l,∀ y ∈ ra,Nl lt y x):MH lt all (l ++ out) ra rb:=by
 have sb:=List.pairwise_append.mp h.sb
 refine ⟨?_,?_,h.sa,sb.1,?_⟩
 ·refine List.Perm.trans ?_ h.perm
  simp
 ·exact List.pairwise_append.mpr ⟨sb.2.1,h.so,fun x hx o ho=>h.le o ho x (.inr (List.mem_append_right _ hx))⟩
 ·intro o ho x hx
  rcases List.mem_append.mp ho with ho | ho
  ·rcases hx with hx | hx
   ·exact hl o ho x hx
   ·exact sb.2.2 x hx o ho
  ·exact h.le o ho x (hx.imp id fun z=>List.mem_append_left _ z)
theorem MH.takeA {all out l ra rb:List Keyed} (h:MH lt all out (ra ++ l) rb) (hl:∀ x ∈ l,∀ y ∈ rb,Nl lt y x):MH lt all (l ++ out) ra rb:=(h.turn.takeB hl).turn
theorem MH.fin {all out ra rb:List Keyed} (h:MH lt all out ra rb) (hl:∀ x ∈ ra,∀ y ∈ rb,Nl lt x y) {r:Array Keyed} (e:r.toList=ra ++ rb ++ out):Mrg lt all r:=by
 refine ⟨?_,?_⟩
 ·rw [e]
  exact List.pairwise_append.mpr ⟨List.pairwise_append.mpr ⟨h.sa,h.sb,hl⟩,h.so,fun x hx o ho=>h.le o ho x (List.mem_append.mp hx)⟩
 ·rw [e]
  exact h.perm
theorem itA_toList {xs:Array Keyed} {i:Nat} (h:i < xs.toList.length):xs.toList[i]=itA xs i:=by
 have h':i < xs.size:=by simpa using h
 unfold itA
 simp [Array.getD,h']
theorem drop_itA {xs:Array Keyed} {i:Nat} (h:i < xs.size):xs.toList.drop i=itA xs i :: xs.toList.drop (i + 1):=by
 rw [List.drop_eq_getElem_cons (by simpa using h),itA_toList]
theorem take_itA {xs:Array Keyed} {i:Nat} (h:i < xs.size):xs.toList.take (i + 1)=xs.toList.take i ++ [itA xs i]:=by
 rw [List.take_succ,List.getElem?_eq_getElem (by simpa using h),itA_toList]
 rfl
theorem drop_part (xs:Array Keyed) (i k:Nat):xs.toList.drop i=(xs.extract i (i + k)).toList ++ xs.toList.drop (i + k):=by
 rw [Array.toList_extract,List.extract_eq_take_drop,Nat.add_sub_cancel_left,<-List.drop_drop]
 exact (List.take_append_drop _ _).symm
theorem take_part {xs:Array Keyed} {i j:Nat} (h:i<=j):xs.toList.take j=xs.toList.take i ++ (xs.extract i j).toList:=by
 rw [Array.toList_extract,List.extract_eq_take_drop]
 have:j=i + (j - i):=by (first|lia|omega)
 rw [this,List.take_add,<-this]
theorem mem_part {xs:Array Keyed} {i j:Nat} {x:Keyed} (h:x ∈ (xs.extract i j).toList):∃ k,i<=k/\k < j/\k < xs.size/\x=itA xs k:=by
 obtain ⟨n,hn,rfl⟩:=List.getElem_of_mem h
 have hn':n < min (j - i) (xs.size - i):=by simpa using hn
 refine ⟨i + n,by (first|lia|omega),by (first|lia|omega),by (first|lia|omega),?_⟩
 unfold itA
 have:i + n < xs.size:=by (first|lia|omega)
 simp [Array.getD,this]
theorem mem_dropA {xs:Array Keyed} {i:Nat} {x:Keyed} (h:x ∈ xs.toList.drop i):∃ k,i<=k/\k < xs.size/\x=itA xs k:=by
 obtain ⟨n,hn,rfl⟩:=List.getElem_of_mem h
 have hn':n < xs.size - i:=by simpa using hn
 refine ⟨i + n,by (first|lia|omega),by (first|lia|omega),?_⟩
 rw [List.getElem_drop,itA_toList]
theorem mem_takeA {xs:Array Keyed} {i:Nat} {x:Keyed} (h:x ∈ xs.toList.take i):∃ k,k < i/\k < xs.size/\x=itA xs k:=by
 obtain ⟨n,hn,rfl⟩:=List.getElem_of_mem h
 have hn':n < min i xs.size:=by simpa using hn
 refine ⟨n,by (first|lia|omega),by (first|lia|omega),?_⟩
 rw [List.getElem_take,itA_toList]
theorem pw_at {xs:Array Keyed} (sw:Swo lt) (h:xs.toList.Pairwise (Nl lt)) {i j:Nat} (hij:i<=j) (hj:j < xs.size):Nl lt (itA xs i) (itA xs j):=by
 rcases Nat.lt_or_ge i j with hlt | hge
 ·have:=(List.pairwise_iff_getElem.mp h) i j (by simp; (first|lia|omega)) (by simpa using hj) hlt
  rw [itA_toList,itA_toList] at this
  exact this
 ·have:i=j:=by (first|lia|omega)
  subst this
  exact sw.rfl' _
theorem at_pw {xs:Array Keyed} (h:∀ i j,i < j->j < xs.size->Nl lt (itA xs i) (itA xs j)):xs.toList.Pairwise (Nl lt):=by
 rw [List.pairwise_iff_getElem]
 intro i j hi hj hij
 rw [itA_toList,itA_toList]
 exact h i j hij (by simpa using hj)
theorem extr_drop (xs:Array Keyed) (i:Nat):(xs.extract i).toList=xs.toList.drop i:=by
 rw [Array.toList_extract,List.extract_eq_take_drop]
 exact List.take_of_length_le (by simp)
theorem extr_take (xs:Array Keyed) (i:Nat):(xs.extract 0 i).toList=xs.toList.take i:=by
 rw [Array.toList_extract,List.extract_eq_take_drop]
 rfl
theorem byd_mono (sw:Swo lt) {left:Bool} {key:Keyed} {xs:Array Keyed} {base n:Nat} (sx:∀ i j,base<=i->i<=j->j < base + n->Nl lt (itA xs i) (itA xs j)) :
  ∀ i j,i<=j->j < n->byd lt left key (itA xs (base + j))=true->byd lt left key (itA xs (base + i))=true:=by
 intro i j hij hj h
 have q:=sx (base + i) (base + j) (by (first|lia|omega)) (by (first|lia|omega)) (by (first|lia|omega))
 unfold byd at *
 cases left with
 | true=>
  simp only [if_true] at *
  exact sw.lt_of' q h
 | false=>
  simp only [Bool.false_eq_true,if_false,Bool.not_eq_true'] at *
  exact sw.trans q h
theorem byd_ft {key x:Keyed} (h:byd lt false key x=true):Nl lt x key:=by
 unfold byd at h
 unfold Nl
 simpa using h
theorem byd_ff {key x:Keyed} (h:byd lt false key x=false):lt key x=true:=by
 unfold byd at h
 simpa using h
theorem byd_tt {key x:Keyed} (h:byd lt true key x=true):lt x key=true:=by
 unfold byd at h
 simpa using h
theorem byd_tf {key x:Keyed} (h:byd lt true key x=false):Nl lt key x:=by
 unfold byd at h
 unfold Nl
 simpa using h
end lists
end L2
namespace L2
open PySem PySem.W PyProof.Rows
section
variable {prog:Program} {w:World} {A:Around} {E:Value->Shared->Prop} {s:Shared} {κ:SortKind} {lt:Keyed->Keyed->Bool} {a0:Array Keyed}
def mergeLoG:Array Keyed->Array Keyed->StateT SortSt Sem (Array Keyed):=sortPriv% PySem.Builtin.mergeLo
abbrev setGal (st:SortSt) (g:Nat):SortSt:=SortSt.mk' (kindOf st) (arrOf st) (pendingOf st) g (failedOf st)
theorem wpS_iteI {α:Type} {c:Prop} [Decidable c] {t e:StateT SortSt Sem α} {Q:α->SortSt->Prop} {st:SortSt} (hp:c->wpS (model prog w) A E s t Q st) (hn:¬ c->wpS (model prog w) A E s e Q st):wpS (model prog w) A E s (if c then t else e) Q st:=by
 by_cases h:c
 ·rw [if_pos h]; exact hp h
 ·rw [if_neg h]; exact hn h
theorem wpS_beqI {α:Type} {m n:Nat} {t e:StateT SortSt Sem α} {Q:α->SortSt->Prop} {st:SortSt} (hp:m=n->wpS (model prog w) A E s t Q st) (hn:¬ m=n->wpS (model prog w) A E s e Q st):wpS (model prog w) A E s (if (m == n)=true then t else e) Q st:=
 wpS_iteI (fun h=>hp (by simpa using h)) (fun h=>hn (by simpa using h))
theorem dup1 {G:Prop} {α:Type} {T:α->Prop} (main:(∀ x,T x)->G) (leaf:∀ x,T x):G:=main leaf
theorem dup2 {G:Prop} {α β:Type} {T:α->β->Prop} (C:α->β->Prop) (main:(∀ x y,C x y->T x y)->G) (leaf:∀ x y,C x y->T x y):G:=main leaf
structure MLo (lt:Keyed->Keyed->Bool) (a b out:Array Keyed) (ia ib:Nat):Prop where
 ml:ML lt (a.toList ++ b.toList) out.toList (a.toList.drop ia) (b.toList.drop ib)
 ha:ia + 1 < a.size
 hb:ib < b.size
 sz:out.size=ia + ib
theorem wpS_mergeLoG {a b:Array Keyed} {Q:Array Keyed->SortSt->Prop} {st:SortSt} (sw:Swo lt) (an:Ans prog w A s κ lt a0) (hk:kindOf st=κ)
  (ma:∀ i,i < a.size->itA a i ∈ a0) (mb:∀ i,i < b.size->itA b i ∈ a0) (sa:a.toList.Pairwise (Nl lt)) (sb:b.toList.Pairwise (Nl lt)) (na:0 < a.size) (nb:0 < b.size)
  (hf:Nl lt (itA b 0) (itA a 0)) (hl:∀ j,j < b.size->Nl lt (itA b j) (itA a (a.size - 1)))
  (h:∀ r g,Mrg lt (a.toList ++ b.toList) r->Q r (setGal st g)):wpS (model prog w) A E s (mergeLoG a b) Q st:=by
 have start:ML lt (a.toList ++ b.toList) (#[itA b 0]:Array Keyed).toList (a.toList.drop 0) (b.toList.drop 1):=by
  have e:b.toList.drop 0=[itA b 0] ++ b.toList.drop 1:=drop_itA nb
  have m0:ML lt (a.toList ++ b.toList) [] (a.toList.drop 0) ([itA b 0] ++ b.toList.drop 1):=by
   rw [<-e]
   exact ⟨List.Perm.refl _,.nil,sa,sb,fun o ho=>nomatch ho⟩
  refine m0.takeB fun x hx y hy=>?_
  obtain ⟨k,_,hk2,rfl⟩:=mem_dropA hy
  rcases List.mem_singleton.mp hx with rfl
  exact sw.trans hf (pw_at sw sa (Nat.zero_le _) hk2)
 have lastA:∀ (out:Array Keyed) ia ib,ML lt (a.toList ++ b.toList) out.toList (a.toList.drop ia) (b.toList.drop ib)->ia + 1=a.size->Mrg lt (a.toList ++ b.toList) (out ++ b.extract ib ++ a.extract ia):=by
  intro out ia ib m e
  refine m.turn.fin (fun x hx y hy=>?_) (by rw [Array.toList_append,Array.toList_append,extr_drop,extr_drop])
  obtain ⟨k,_,hk2,rfl⟩:=mem_dropA hx
  obtain ⟨j,hj1,hj2,rfl⟩:=mem_dropA hy
  have:j=a.size - 1:=by (first|lia|omega)
  subst this
  exact hl k hk2
 have doneB:∀ (out:Array Keyed) ia ib,ML lt (a.toList ++ b.toList) out.toList (a.toList.drop ia) (b.toList.drop ib)->ib=b.size->Mrg lt (a.toList ++ b.toList) (out ++ a.extract ia ++ b.extract ib):=by
  intro out ia ib m e
  refine m.fin (fun x hx y hy=>?_) (by rw [Array.toList_append,Array.toList_append,extr_drop,extr_drop])
  obtain ⟨k,hk1,hk2,rfl⟩:=mem_dropA hy
  (first|lia|omega)
 have doneA:∀ (out:Array Keyed) ia ib,ML lt (a.toList ++ b.toList) out.toList (a.toList.drop ia) (b.toList.drop ib)->ia=a.size->Mrg lt (a.toList ++ b.toList) (out ++ a.extract ia ++ b.extract ib):=by
  intro out ia ib m e
  refine m.fin (fun x hx y hy=>?_) (by rw [Array.toList_append,Array.toList_append,extr_drop,extr_drop])
  obtain ⟨k,hk1,hk2,rfl⟩:=mem_dropA hx
  (first|lia|omega)
 have pushB:∀ (out:Array Keyed) ia ib,ML lt (a.toList ++ b.toList) out.toList (a.toList.drop ia) (b.toList.drop ib)->ib < b.size->(∀ i,ia<=i->i < a.size->Nl lt (itA b ib) (itA a i)) ->
   ML lt (a.toList ++ b.toList) (out.push (itA b ib)).toList (a.toList.drop ia) (b.toList.drop (ib + 1)):=by
  intro out ia ib m hib hx
  rw [Array.toList_push]
  rw [drop_itA hib] at m
  refine ML.takeB (l:=[itA b ib]) m fun x hx' y hy=>?_
  rcases List.mem_singleton.mp hx' with rfl
  obtain ⟨k,hk1,hk2,rfl⟩:=mem_dropA hy
  exact hx k hk1 hk2
 have pushA:∀ (out:Array Keyed) ia ib,ML lt (a.toList ++ b.toList) out.toList (a.toList.drop ia) (b.toList.drop ib)->ia < a.size->(∀ i,ib<=i->i < b.size->Nl lt (itA a ia) (itA b i)) ->
   ML lt (a.toList ++ b.toList) (out.push (itA a ia)).toList (a.toList.drop (ia + 1)) (b.toList.drop ib):=by
  intro out ia ib m hia hx
  rw [Array.toList_push]
  rw [drop_itA hia] at m
  refine ML.takeA (l:=[itA a ia]) m fun x hx' y hy=>?_
  rcases List.mem_singleton.mp hx' with rfl
  obtain ⟨k,hk1,hk2,rfl⟩:=mem_dropA hy
  exact hx k hk1 hk2
 have partA:∀ (out:Array Keyed) ia ib k,ML lt (a.toList ++ b.toList) out.toList (a.toList.drop ia) (b.toList.drop ib)->(∀ i j,ia<=i->i < ia + k->i < a.size->ib<=j->j < b.size->Nl lt (itA a i) (itA b j)) ->
   ML lt (a.toList ++ b.toList) (out ++ a.extract ia (ia + k)).toList (a.toList.drop (ia + k)) (b.toList.drop ib):=by
  intro out ia ib k m hx
  rw [Array.toList_append]
  rw [drop_part a ia k] at m
  refine ML.takeA m fun x hx' y hy=>?_
  obtain ⟨i,i1,i2,i3,rfl⟩:=mem_part hx'
  obtain ⟨j,j1,j2,rfl⟩:=mem_dropA hy
  exact hx i j i1 i2 i3 j1 j2
 have partB:∀ (out:Array Keyed) ia ib k,ML lt (a.toList ++ b.toList) out.toList (a.toList.drop ia) (b.toList.drop ib)->(∀ i j,ib<=i->i < ib + k->i < b.size->ia<=j->j < a.size->Nl lt (itA b i) (itA a j)) ->
   ML lt (a.toList ++ b.toList) (out ++ b.extract ib (ib + k)).toList (a.toList.drop ia) (b.toList.drop (ib + k)):=by
  intro out ia ib k m hx
  rw [Array.toList_append]
  rw [drop_part b ib k] at m
  refine ML.takeB m fun x hx' y hy=>?_
  obtain ⟨i,i1,i2,i3,rfl⟩:=mem_part hx'
  obtain ⟨j,j1,j2,rfl⟩:=mem_dropA hy
  exact hx i j i1 i2 i3 j1 j2
 refine wpS_bind (wpS_lift (wpAny_rule ⟨rfl,?_⟩))
 try dsimp -zeta only
 refine wpS_bind (wpS_elemG (i:=0) nb ?_)
 by_cases h1:b.size=1
 ·rw [if_pos (by simp [h1])]
  exact wpS_pure (h _ _ (doneB _ 0 1 start h1.symm))
 rw [if_neg (by simpa using fun e=>h1 e.symm)]
 by_cases h2:a.size=1
 ·rw [if_pos (by simp [h2])]
  exact wpS_pure (h _ _ (lastA _ 0 1 start (by (first|lia|omega))))
 rw [if_neg (by simpa using fun e=>h2 (by (first|lia|omega)))]
 refine wpS_bind (wpS_get ?_)
 refine wpS_bind (wpS_mono (wpS_forRange (I:=fun x c st'=>∃ out ia ib g g',c=(none,out,ia,ib,g)/\st'=setGal st g'/\MLo lt a b out ia ib/\x + 1<=out.size)
  (Q:=fun c st'=>∃ r g',c.1=some r/\st'=setGal st g'/\Mrg lt (a.toList ++ b.toList) r) ?step ?fin ?init) ?post)
 case init=>exact ⟨_,0,1,_,_,rfl,rfl,⟨start,by (first|lia|omega),by (first|lia|omega),rfl⟩,by simp⟩
 case fin=>
  rintro c st' ⟨out,ia,ib,g,g',rfl,rfl,m,hx⟩
  have:=m.ha
  have:=m.hb
  have:=m.sz
  (first|lia|omega)
 case post=>
  rintro ⟨c,rest⟩ st' ⟨r,g',e,rfl,m⟩
  dsimp only at e
  subst e
  exact wpS_pure (h _ _ m)
 case step=>
  rintro x c st' _ hxs ⟨out,ia,ib,g,g',rfl,rfl,m,hx⟩
  try dsimp -zeta only
  refine wpS_bind (wpS_mono (wpS_forRange (I:=fun y c st'=>∃ out ia ib ac bc,c=(none,out,ia,ib,ac,bc)/\st'=setGal st g'/\MLo lt a b out ia ib/\x + y + 1<=out.size)
   (Q:=fun c st'=>st'=setGal st g'/\((∃ r,c.1=some r/\Mrg lt (a.toList ++ b.toList) r)\/∃ out ia ib ac bc,c=(none,out,ia,ib,ac,bc)/\MLo lt a b out ia ib/\x + 2<=out.size)) ?istep ?ifin ?iinit) ?ipost)
  case iinit=>exact ⟨out,ia,ib,0,0,rfl,rfl,m,by (first|lia|omega)⟩
  case ifin=>
   rintro c st' ⟨out,ia,ib,ac,bc,rfl,rfl,m,hx⟩
   have:=m.ha
   have:=m.hb
   have:=m.sz
   (first|lia|omega)
  case istep=>
   rintro y c st' _ hy ⟨out,ia,ib,ac,bc,rfl,rfl,m,hx⟩
   try dsimp -zeta only
   have hia:=m.ha
   have hib:=m.hb
   have hsz:=m.sz
   refine wpS_bind (wpS_elemG hib (wpS_bind (wpS_elemG (by first | (first|lia|omega) | (dsimp only at *; (first|lia|omega))) ?_)))
   refine wpS_bind (wpS_ltG an hk (mb _ hib) (ma _ (by first | (first|lia|omega) | (dsimp only at *; (first|lia|omega)))) ?_)
   try dsimp -zeta only
   cases e:lt (itA b ib) (itA a ia)
   ·simp only [Bool.false_eq_true,if_false]
    refine wpS_bind (wpS_elemG (by (first|lia|omega)) ?_)
    have m2:=pushA out ia ib m.ml (by (first|lia|omega)) (fun i i1 i2=>sw.trans e (pw_at sw sb i1 i2))
    by_cases q1:ia + 1 + 1=a.size
    ·rw [if_pos (by simpa using q1)]
     exact wpS_pure ⟨rfl,.inl ⟨_,rfl,lastA _ _ _ m2 q1⟩⟩
    ·rw [if_neg (by simpa using q1)]
     have mm:MLo lt a b (out.push (itA a ia)) (ia + 1) ib:=⟨m2,by (first|lia|omega),hib,by rw [Array.size_push]; (first|lia|omega)⟩
     split
     ·exact wpS_pure ⟨rfl,.inr ⟨_,_,_,_,_,rfl,mm,by rw [Array.size_push]; (first|lia|omega)⟩⟩
     ·exact wpS_pure ⟨_,_,_,_,_,rfl,rfl,mm,by rw [Array.size_push]; (first|lia|omega)⟩
   ·simp only [if_true]
    refine wpS_bind (wpS_elemG hib ?_)
    have m2:=pushB out ia ib m.ml hib (fun i i1 i2=>sw.trans (sw.of_lt e) (pw_at sw sa i1 i2))
    by_cases q1:ib + 1=b.size
    ·rw [if_pos (by simpa using q1)]
     exact wpS_pure ⟨rfl,.inl ⟨_,rfl,doneB _ _ _ m2 q1⟩⟩
    ·rw [if_neg (by simpa using q1)]
     have mm:MLo lt a b (out.push (itA b ib)) ia (ib + 1):=⟨m2,hia,by (first|lia|omega),by rw [Array.size_push]; (first|lia|omega)⟩
     split
     ·exact wpS_pure ⟨rfl,.inr ⟨_,_,_,_,_,rfl,mm,by rw [Array.size_push]; (first|lia|omega)⟩⟩
     ·exact wpS_pure ⟨_,_,_,_,_,rfl,rfl,mm,by rw [Array.size_push]; (first|lia|omega)⟩
  case ipost=>
   rintro c st' ⟨rfl,hc⟩
   rcases hc with ⟨r,hc,hm⟩ | ⟨out,ia,ib,ac,bc,rfl,m,hx2⟩
   ·obtain ⟨c,rest⟩:=c
    dsimp only at hc
    subst hc
    exact wpS_pure ⟨r,g',rfl,rfl,hm⟩
   ·try dsimp -zeta only
    refine wpS_bind (wpS_lift (wpAny_rule ⟨rfl,?_⟩))
    refine wpS_bind (wpS_mono (wpS_forRange (I:=fun y c st'=>∃ out ia ib g ac bc g',c=(none,out,ia,ib,g,ac,bc)/\st'=setGal st g'/\MLo lt a b out ia ib/\x + 2<=out.size)
     (Q:=fun c st'=>∃ g',st'=setGal st g'/\((∃ r,c.1=some r/\Mrg lt (a.toList ++ b.toList) r)\/∃ out ia ib g ac bc,c=(none,out,ia,ib,g,ac,bc)/\MLo lt a b out ia ib/\x + 2<=out.size)) ?jstep ?jfin ?jinit) ?jpost)
    case jinit=>exact ⟨out,ia,ib,_,ac,bc,g',rfl,rfl,m,hx2⟩
    case jfin=>
     rintro c st' ⟨out,ia,ib,g,ac,bc,g',rfl,rfl,m,hx⟩
     exact ⟨g',rfl,.inr ⟨out,ia,ib,g,ac,bc,rfl,m,hx⟩⟩
    case jpost=>
     rintro c st' ⟨g',rfl,hc⟩
     rcases hc with ⟨r,hc,hm⟩ | ⟨out,ia,ib,g,ac,bc,rfl,m,hx2⟩
     ·obtain ⟨c,rest⟩:=c
      dsimp only at hc
      subst hc
      exact wpS_pure ⟨r,g',rfl,rfl,hm⟩
     ·try dsimp -zeta only
      exact wpS_bind (wpS_modify (wpS_pure ⟨out,ia,ib,_,_,rfl,rfl,m,hx2⟩))
    case jstep=>
     rintro y c st' _ hy ⟨out,ia,ib,g,ac,bc,g',rfl,rfl,m,hx⟩
     try dsimp -zeta only
     have hia:=m.ha
     have hib:=m.hb
     have hsz:=m.sz
     apply dup1
     case main=>
      intro rest
      refine wpS_iteI (fun gg=>?_) (fun gg=>?_)
      ·generalize g - 1=g2
       exact rest g2
      ·exact rest g
     case leaf=>
      intro g2
      refine wpS_bind (wpS_modify ?_)
      refine wpS_bind (wpS_elemG hib ?_)
      refine wpS_bind (wpS_gallopG (left:=false) an hk (mb _ hib) (fun i hi=>ma _ (by first | (first|lia|omega) | (dsimp only at *; (first|lia|omega)))) (by first | (first|lia|omega) | (dsimp only at *; (first|lia|omega))) (by first | (first|lia|omega) | (dsimp only at *; (first|lia|omega))) (byd_mono sw fun i j _ h1 h2=>pw_at sw sa h1 (by first | (first|lia|omega) | (dsimp only at *; (first|lia|omega)))) fun k k1 k2 k3=>?_)
      try dsimp -zeta only
      have n2:∀ i,ia + k<=i->i < a.size->Nl lt (itA b ib) (itA a i):=fun i i1 i2=>by
       have q:=byd_ff (k3 (i - ia) (by first | (first|lia|omega) | (dsimp only at *; (first|lia|omega))) (by first | (first|lia|omega) | (dsimp only at *; (first|lia|omega))))
       rw [show ia + (i - ia)=i by (first|lia|omega)] at q
       exact sw.of_lt q
      apply dup2 (fun (out2:Array Keyed) (ia2:Nat)=>ML lt (a.toList ++ b.toList) out2.toList (a.toList.drop ia2) (b.toList.drop ib)/\out2.size=ia2 + ib/\ia2 + 1 < a.size/\x + 2<=out2.size/\∀ i,ia2<=i->i < a.size->Nl lt (itA b ib) (itA a i))
      case main=>
       intro rest
       refine wpS_iteI (fun k0=>?_) (fun k0=>?_)
       ·skip
        have m2:=partA out ia ib k m.ml (fun i j i1 i2 i3 j1 j2=>by
         have q:=byd_ft (k2 (i - ia) (by (first|lia|omega)))
         rw [show ia + (i - ia)=i by (first|lia|omega)] at q
         exact sw.trans q (pw_at sw sb j1 j2))
        have z2:(out ++ a.extract ia (ia + k)).size=ia + k + ib:=by
         rw [Array.size_append,Array.size_extract,hsz]
         first | (first|lia|omega) | (dsimp only at *; (first|lia|omega))
        refine wpS_beqI (fun q1=>wpS_pure ⟨_,rfl,.inl ⟨_,rfl,lastA _ _ _ m2 q1⟩⟩) fun q1=>?_
        refine wpS_beqI (fun q2=>wpS_pure ⟨_,rfl,.inl ⟨_,rfl,doneA _ _ _ m2 q2⟩⟩) fun q2=>?_
        obtain ⟨out2,eo⟩:∃ o,o=out ++ a.extract ia (ia + k):=⟨_,rfl⟩
        obtain ⟨ia2,ei⟩:∃ o,o=ia + k:=⟨_,rfl⟩
        rw [<-eo,<-ei] at m2 z2
        rw [<-ei] at n2
        rw [<-eo,<-ei]
        exact rest out2 ia2 ⟨m2,z2,by first | (first|lia|omega) | (dsimp only at *; (first|lia|omega)),by first | (first|lia|omega) | (dsimp only at *; (first|lia|omega)),n2⟩
       ·exact rest out ia ⟨m.ml,hsz,hia,hx,fun i i1 i2=>n2 i (by (first|lia|omega)) i2⟩
      case leaf=>
       rintro out2 ia2 ⟨m2,z2,hia2,hx2',n2⟩
       refine wpS_bind (wpS_elemG hib ?_)
       have m3:=pushB out2 ia2 ib m2 hib n2
       have z3:(out2.push (itA b ib)).size=ia2 + (ib + 1):=by rw [Array.size_push]; (first|lia|omega)
       refine wpS_beqI (fun q3=>wpS_pure ⟨_,rfl,.inl ⟨_,rfl,doneB _ _ _ m3 q3⟩⟩) fun q3=>?_
       refine wpS_bind (wpS_elemG (by (first|lia|omega)) ?_)
       refine wpS_bind (wpS_gallopG (left:=true) an hk (ma _ (by (first|lia|omega))) (fun i hi=>mb _ (by (first|lia|omega))) (by (first|lia|omega)) (by (first|lia|omega)) (byd_mono sw fun i j _ h1 h2=>pw_at sw sb h1 (by (first|lia|omega))) fun l l1 l2 l3=>?_)
       try dsimp -zeta only
       have n4:∀ i,ib + 1 + l<=i->i < b.size->Nl lt (itA a ia2) (itA b i):=fun i i1 i2=>by
        have q:=byd_tf (l3 (i - (ib + 1)) (by (first|lia|omega)) (by (first|lia|omega)))
        rw [show ib + 1 + (i - (ib + 1))=i by (first|lia|omega)] at q
        exact q
       apply dup2 (fun (out3:Array Keyed) (ib2:Nat)=>ML lt (a.toList ++ b.toList) out3.toList (a.toList.drop ia2) (b.toList.drop ib2)/\out3.size=ia2 + ib2/\ib2 < b.size/\ib<=ib2/\∀ i,ib2<=i->i < b.size->Nl lt (itA a ia2) (itA b i))
       case main=>
        intro rest
        refine wpS_iteI (fun l0=>?_) (fun l0=>?_)
        ·skip
         have m4:=partB _ ia2 (ib + 1) l m3 (fun i j i1 i2 i3 j1 j2=>by
          have q:=byd_tt (l2 (i - (ib + 1)) (by (first|lia|omega)))
          rw [show ib + 1 + (i - (ib + 1))=i by (first|lia|omega)] at q
          exact sw.trans (sw.of_lt q) (pw_at sw sa j1 j2))
         have z4:(out2.push (itA b ib) ++ b.extract (ib + 1) (ib + 1 + l)).size=ia2 + (ib + 1 + l):=by
          rw [Array.size_append,Array.size_extract,z3]
          (first|lia|omega)
         refine wpS_beqI (fun q1=>wpS_pure ⟨_,rfl,.inl ⟨_,rfl,doneB _ _ _ m4 q1⟩⟩) fun q1=>?_
         obtain ⟨out3,eo3⟩:∃ o,o=out2.push (itA b ib) ++ b.extract (ib + 1) (ib + 1 + l):=⟨_,rfl⟩
         obtain ⟨ib2,ei3⟩:∃ o,o=ib + 1 + l:=⟨_,rfl⟩
         rw [<-eo3,<-ei3] at m4 z4
         rw [<-ei3] at n4
         rw [<-eo3,<-ei3]
         exact rest out3 ib2 ⟨m4,z4,by (first|lia|omega),by (first|lia|omega),n4⟩
        ·exact rest _ (ib + 1) ⟨m3,z3,by (first|lia|omega),by (first|lia|omega),fun i i1 i2=>n4 i (by (first|lia|omega)) i2⟩
       case leaf=>
        rintro out3 ib2 ⟨m4,z4,hib2,le2,n4⟩
        refine wpS_bind (wpS_elemG (by (first|lia|omega)) ?_)
        have m5:=pushA out3 ia2 ib2 m4 (by (first|lia|omega)) n4
        have z5:(out3.push (itA a ia2)).size=ia2 + 1 + ib2:=by rw [Array.size_push]; (first|lia|omega)
        refine wpS_beqI (fun q5=>wpS_pure ⟨_,rfl,.inl ⟨_,rfl,lastA _ _ _ m5 q5⟩⟩) fun q5=>?_
        have mm:MLo lt a b (out3.push (itA a ia2)) (ia2 + 1) ib2:=⟨m5,by (first|lia|omega),hib2,z5⟩
        have hx5:x + 2<=(out3.push (itA a ia2)).size:=by (first|lia|omega)
        refine wpS_iteI (fun _=>wpS_pure ⟨_,rfl,.inr ⟨_,_,_,_,_,_,rfl,mm,hx5⟩⟩) (fun _=>wpS_pure ⟨_,_,_,_,_,_,_,rfl,rfl,mm,hx5⟩)
end
end L2
namespace L2
open PySem PySem.W PyProof.Rows
section
variable {prog:Program} {w:World} {A:Around} {E:Value->Shared->Prop} {s:Shared} {κ:SortKind} {lt:Keyed->Keyed->Bool} {a0:Array Keyed}
def mergeHiG:Array Keyed->Array Keyed->StateT SortSt Sem (Array Keyed):=sortPriv% PySem.Builtin.mergeHi
structure MHo (lt:Keyed->Keyed->Bool) (a b out:Array Keyed) (na nb:Nat):Prop where
 mh:MH lt (a.toList ++ b.toList) out.toList.reverse (a.toList.take na) (b.toList.take nb)
 ha:0 < na
 hb:1 < nb
 la:na<=a.size
 lb:nb<=b.size
 sz:out.size + (na + nb)=a.size + b.size
theorem wpS_mergeHiG {a b:Array Keyed} {Q:Array Keyed->SortSt->Prop} {st:SortSt} (sw:Swo lt) (an:Ans prog w A s κ lt a0) (hk:kindOf st=κ)
  (ma:∀ i,i < a.size->itA a i ∈ a0) (mb:∀ i,i < b.size->itA b i ∈ a0) (sa:a.toList.Pairwise (Nl lt)) (sb:b.toList.Pairwise (Nl lt)) (pa:0 < a.size) (pb:0 < b.size)
  (hf:Nl lt (itA b 0) (itA a 0)) (hl:∀ j,j < b.size->Nl lt (itA b j) (itA a (a.size - 1)))
  (h:∀ r g,Mrg lt (a.toList ++ b.toList) r->Q r (setGal st g)):wpS (model prog w) A E s (mergeHiG a b) Q st:=by
 have pushA:∀ (out:Array Keyed) na nb,MH lt (a.toList ++ b.toList) out.toList.reverse (a.toList.take na) (b.toList.take nb)->0 < na->na<=a.size->(∀ i,i < nb->i < b.size->Nl lt (itA b i) (itA a (na - 1))) ->
   MH lt (a.toList ++ b.toList) (out.push (itA a (na - 1))).toList.reverse (a.toList.take (na - 1)) (b.toList.take nb):=by
  intro out na nb m h0 h1 hx
  rw [Array.toList_push,List.reverse_append]
  obtain ⟨n,rfl⟩:∃ n,na=n + 1:=⟨na - 1,by (first|lia|omega)⟩
  rw [take_itA (by (first|lia|omega))] at m
  refine MH.takeA (l:=[itA a n]) m fun x hx' y hy=>?_
  rcases List.mem_singleton.mp hx' with rfl
  obtain ⟨k,hk1,hk2,rfl⟩:=mem_takeA hy
  exact hx k hk1 hk2
 have pushB:∀ (out:Array Keyed) na nb,MH lt (a.toList ++ b.toList) out.toList.reverse (a.toList.take na) (b.toList.take nb)->0 < nb->nb<=b.size->(∀ i,i < na->i < a.size->Nl lt (itA a i) (itA b (nb - 1))) ->
   MH lt (a.toList ++ b.toList) (out.push (itA b (nb - 1))).toList.reverse (a.toList.take na) (b.toList.take (nb - 1)):=by
  intro out na nb m h0 h1 hx
  rw [Array.toList_push,List.reverse_append]
  obtain ⟨n,rfl⟩:∃ n,nb=n + 1:=⟨nb - 1,by (first|lia|omega)⟩
  rw [take_itA (by (first|lia|omega))] at m
  refine MH.takeB (l:=[itA b n]) m fun x hx' y hy=>?_
  rcases List.mem_singleton.mp hx' with rfl
  obtain ⟨k,hk1,hk2,rfl⟩:=mem_takeA hy
  exact hx k hk1 hk2
 have partA:∀ (out:Array Keyed) na nb k,MH lt (a.toList ++ b.toList) out.toList.reverse (a.toList.take na) (b.toList.take nb)->k<=na->(∀ i j,k<=i->i < na->i < a.size->j < nb->j < b.size->Nl lt (itA b j) (itA a i)) ->
   MH lt (a.toList ++ b.toList) (out ++ (a.extract k na).reverse).toList.reverse (a.toList.take k) (b.toList.take nb):=by
  intro out na nb k m h0 hx
  rw [Array.toList_append,Array.toList_reverse,List.reverse_append,List.reverse_reverse]
  rw [take_part h0] at m
  refine MH.takeA m fun x hx' y hy=>?_
  obtain ⟨i,i1,i2,i3,rfl⟩:=mem_part hx'
  obtain ⟨j,j1,j2,rfl⟩:=mem_takeA hy
  exact hx i j i1 i2 i3 j1 j2
 have partB:∀ (out:Array Keyed) na nb k,MH lt (a.toList ++ b.toList) out.toList.reverse (a.toList.take na) (b.toList.take nb)->k<=nb->(∀ i j,k<=i->i < nb->i < b.size->j < na->j < a.size->Nl lt (itA a j) (itA b i)) ->
   MH lt (a.toList ++ b.toList) (out ++ (b.extract k nb).reverse).toList.reverse (a.toList.take na) (b.toList.take k):=by
  intro out na nb k m h0 hx
  rw [Array.toList_append,Array.toList_reverse,List.reverse_append,List.reverse_reverse]
  rw [take_part h0] at m
  refine MH.takeB m fun x hx' y hy=>?_
  obtain ⟨i,i1,i2,i3,rfl⟩:=mem_part hx'
  obtain ⟨j,j1,j2,rfl⟩:=mem_takeA hy
  exact hx i j i1 i2 i3 j1 j2
 have start:MH lt (a.toList ++ b.toList) (#[itA a (a.size - 1)]:Array Keyed).toList.reverse (a.toList.take (a.size - 1)) (b.toList.take b.size):=by
  have m0:MH lt (a.toList ++ b.toList) (#[]:Array Keyed).toList.reverse (a.toList.take a.size) (b.toList.take b.size):=by
   rw [List.take_of_length_le (by simp),List.take_of_length_le (by simp)]
   exact ⟨by simp,.nil,sa,sb,fun o ho=>nomatch ho⟩
  exact pushA #[] a.size b.size m0 pa (Nat.le_refl _) fun i _ hi=>hl i hi
 have firstB:∀ (out:Array Keyed) na nb,MH lt (a.toList ++ b.toList) out.toList.reverse (a.toList.take na) (b.toList.take nb)->nb=1->Mrg lt (a.toList ++ b.toList) (b.extract 0 nb ++ a.extract 0 na ++ out.reverse):=by
  intro out na nb m e
  refine m.turn.fin (fun x hx y hy=>?_) (by rw [Array.toList_append,Array.toList_append,extr_take,extr_take,Array.toList_reverse])
  obtain ⟨k,hk1,hk2,rfl⟩:=mem_takeA hx
  obtain ⟨j,hj1,hj2,rfl⟩:=mem_takeA hy
  have:k=0:=by (first|lia|omega)
  subst this
  exact sw.trans hf (pw_at sw sa (Nat.zero_le _) hj2)
 have doneA:∀ (out:Array Keyed) na nb,MH lt (a.toList ++ b.toList) out.toList.reverse (a.toList.take na) (b.toList.take nb)->na=0->Mrg lt (a.toList ++ b.toList) (a.extract 0 na ++ b.extract 0 nb ++ out.reverse):=by
  intro out na nb m e
  refine m.fin (fun x hx y hy=>?_) (by rw [Array.toList_append,Array.toList_append,extr_take,extr_take,Array.toList_reverse])
  obtain ⟨k,hk1,hk2,rfl⟩:=mem_takeA hx
  (first|lia|omega)
 have doneB:∀ (out:Array Keyed) na nb,MH lt (a.toList ++ b.toList) out.toList.reverse (a.toList.take na) (b.toList.take nb)->nb=0->Mrg lt (a.toList ++ b.toList) (a.extract 0 na ++ b.extract 0 nb ++ out.reverse):=by
  intro out na nb m e
  refine m.fin (fun x hx y hy=>?_) (by rw [Array.toList_append,Array.toList_append,extr_take,extr_take,Array.toList_reverse])
  obtain ⟨k,hk1,hk2,rfl⟩:=mem_takeA hy
  (first|lia|omega)
 refine wpS_bind (wpS_lift (wpAny_rule ⟨rfl,?_⟩))
 try dsimp -zeta only
 refine wpS_bind (wpS_elemG (i:=a.size - 1) (by (first|lia|omega)) ?_)
 by_cases h1:a.size - 1=0
 ·rw [if_pos (by simpa using h1)]
  exact wpS_pure (h _ _ (doneA _ _ _ start h1))
 rw [if_neg (by simpa using h1)]
 by_cases h2:b.size=1
 ·rw [if_pos (by simpa using h2)]
  exact wpS_pure (h _ _ (firstB _ _ _ start h2))
 rw [if_neg (by simpa using h2)]
 refine wpS_bind (wpS_get ?_)
 refine wpS_bind (wpS_mono (wpS_forRange (I:=fun x c st'=>∃ na nb out g g',c=(none,na,nb,out,g)/\st'=setGal st g'/\MHo lt a b out na nb/\x + 1<=out.size)
  (Q:=fun c st'=>∃ r g',c.1=some r/\st'=setGal st g'/\Mrg lt (a.toList ++ b.toList) r) ?step ?fin ?init) ?post)
 case init=>exact ⟨_,_,_,_,_,rfl,rfl,⟨start,by (first|lia|omega),by (first|lia|omega),by (first|lia|omega),by (first|lia|omega),by show 1 + _=_; (first|lia|omega)⟩,by simp⟩
 case fin=>
  rintro c st' ⟨na,nb,out,g,g',rfl,rfl,m,hx⟩
  have:=m.ha
  have:=m.hb
  have:=m.sz
  (first|lia|omega)
 case post=>
  rintro ⟨c,rest⟩ st' ⟨r,g',e,rfl,m⟩
  dsimp only at e
  subst e
  exact wpS_pure (h _ _ m)
 case step=>
  rintro x c st' _ hxs ⟨na,nb,out,g,g',rfl,rfl,m,hx⟩
  try dsimp -zeta only
  refine wpS_bind (wpS_mono (wpS_forRange (I:=fun y c st'=>∃ na nb out ac bc,c=(none,na,nb,out,ac,bc)/\st'=setGal st g'/\MHo lt a b out na nb/\x + y + 1<=out.size)
   (Q:=fun c st'=>st'=setGal st g'/\((∃ r,c.1=some r/\Mrg lt (a.toList ++ b.toList) r)\/∃ na nb out ac bc,c=(none,na,nb,out,ac,bc)/\MHo lt a b out na nb/\x + 2<=out.size)) ?istep ?ifin ?iinit) ?ipost)
  case iinit=>exact ⟨na,nb,out,0,0,rfl,rfl,m,by (first|lia|omega)⟩
  case ifin=>
   rintro c st' ⟨na,nb,out,ac,bc,rfl,rfl,m,hx⟩
   have:=m.ha
   have:=m.hb
   have:=m.sz
   (first|lia|omega)
  case istep=>
   rintro y c st' _ hy ⟨na,nb,out,ac,bc,rfl,rfl,m,hx⟩
   try dsimp -zeta only
   have ha:=m.ha
   have hb:=m.hb
   have la:=m.la
   have lb:=m.lb
   have hsz:=m.sz
   refine wpS_bind (wpS_elemG (by first | (first|lia|omega) | (dsimp only at *; (first|lia|omega))) (wpS_bind (wpS_elemG (by first | (first|lia|omega) | (dsimp only at *; (first|lia|omega))) ?_)))
   refine wpS_bind (wpS_ltG an hk (mb _ (by first | (first|lia|omega) | (dsimp only at *; (first|lia|omega)))) (ma _ (by first | (first|lia|omega) | (dsimp only at *; (first|lia|omega)))) ?_)
   try dsimp -zeta only
   cases e:lt (itA b (nb - 1)) (itA a (na - 1))
   ·simp only [Bool.false_eq_true,if_false]
    refine wpS_bind (wpS_elemG (by (first|lia|omega)) ?_)
    have m2:=pushB out na nb m.mh (by (first|lia|omega)) lb (fun i i1 i2=>sw.trans (pw_at sw sa (by (first|lia|omega)) (by (first|lia|omega))) e)
    by_cases q1:nb - 1=1
    ·rw [if_pos (by simpa using q1)]
     exact wpS_pure ⟨rfl,.inl ⟨_,rfl,firstB _ _ _ m2 q1⟩⟩
    ·rw [if_neg (by simpa using q1)]
     have mm:MHo lt a b (out.push (itA b (nb - 1))) na (nb - 1):=⟨m2,ha,by (first|lia|omega),la,by (first|lia|omega),by rw [Array.size_push]; (first|lia|omega)⟩
     split
     ·exact wpS_pure ⟨rfl,.inr ⟨_,_,_,_,_,rfl,mm,by rw [Array.size_push]; (first|lia|omega)⟩⟩
     ·exact wpS_pure ⟨_,_,_,_,_,rfl,rfl,mm,by rw [Array.size_push]; (first|lia|omega)⟩
   ·simp only [if_true]
    refine wpS_bind (wpS_elemG (by (first|lia|omega)) ?_)
    have m2:=pushA out na nb m.mh ha la (fun i i1 i2=>sw.trans (pw_at sw sb (by (first|lia|omega)) (by (first|lia|omega))) (sw.of_lt e))
    by_cases q1:na - 1=0
    ·rw [if_pos (by simpa using q1)]
     exact wpS_pure ⟨rfl,.inl ⟨_,rfl,doneA _ _ _ m2 q1⟩⟩
    ·rw [if_neg (by simpa using q1)]
     have mm:MHo lt a b (out.push (itA a (na - 1))) (na - 1) nb:=⟨m2,by (first|lia|omega),hb,by (first|lia|omega),lb,by rw [Array.size_push]; (first|lia|omega)⟩
     split
     ·exact wpS_pure ⟨rfl,.inr ⟨_,_,_,_,_,rfl,mm,by rw [Array.size_push]; (first|lia|omega)⟩⟩
     ·exact wpS_pure ⟨_,_,_,_,_,rfl,rfl,mm,by rw [Array.size_push]; (first|lia|omega)⟩
  case ipost=>
   rintro c st' ⟨rfl,hc⟩
   rcases hc with ⟨r,hc,hm⟩ | ⟨na,nb,out,ac,bc,rfl,m,hx2⟩
   ·obtain ⟨c,rest⟩:=c
    dsimp only at hc
    subst hc
    exact wpS_pure ⟨r,g',rfl,rfl,hm⟩
   ·try dsimp -zeta only
    refine wpS_bind (wpS_lift (wpAny_rule ⟨rfl,?_⟩))
    refine wpS_bind (wpS_mono (wpS_forRange (I:=fun y c st'=>∃ na nb out g ac bc g',c=(none,na,nb,out,g,ac,bc)/\st'=setGal st g'/\MHo lt a b out na nb/\x + 2<=out.size)
     (Q:=fun c st'=>∃ g',st'=setGal st g'/\((∃ r,c.1=some r/\Mrg lt (a.toList ++ b.toList) r)\/∃ na nb out g ac bc,c=(none,na,nb,out,g,ac,bc)/\MHo lt a b out na nb/\x + 2<=out.size)) ?jstep ?jfin ?jinit) ?jpost)
    case jinit=>exact ⟨na,nb,out,_,ac,bc,g',rfl,rfl,m,hx2⟩
    case jfin=>
     rintro c st' ⟨na,nb,out,g,ac,bc,g',rfl,rfl,m,hx⟩
     exact ⟨g',rfl,.inr ⟨na,nb,out,g,ac,bc,rfl,m,hx⟩⟩
    case jpost=>
     rintro c st' ⟨g',rfl,hc⟩
     rcases hc with ⟨r,hc,hm⟩ | ⟨na,nb,out,g,ac,bc,rfl,m,hx2⟩
     ·obtain ⟨c,rest⟩:=c
      dsimp only at hc
      subst hc
      exact wpS_pure ⟨r,g',rfl,rfl,hm⟩
     ·try dsimp -zeta only
      exact wpS_bind (wpS_modify (wpS_pure ⟨na,nb,out,_,_,rfl,rfl,m,hx2⟩))
    case jstep=>
     rintro y c st' _ hy ⟨na,nb,out,g,ac,bc,g',rfl,rfl,m,hx⟩
     try dsimp -zeta only
     have ha:=m.ha
     have hb:=m.hb
     have la:=m.la
     have lb:=m.lb
     have hsz:=m.sz
     apply dup1
     case main=>
      intro rest
      refine wpS_iteI (fun gg=>?_) (fun gg=>?_)
      ·generalize g - 1=g2
       exact rest g2
      ·exact rest g
     case leaf=>
      intro g2
      refine wpS_bind (wpS_modify ?_)
      refine wpS_bind (wpS_elemG (by first | (first|lia|omega) | (dsimp only at *; (first|lia|omega))) ?_)
      refine wpS_bind (wpS_gallopG (left:=false) an hk (mb _ (by first | (first|lia|omega) | (dsimp only at *; (first|lia|omega)))) (fun i hi=>ma _ (by first | (first|lia|omega) | (dsimp only at *; (first|lia|omega)))) (by first | (first|lia|omega) | (dsimp only at *; (first|lia|omega))) (by first | (first|lia|omega) | (dsimp only at *; (first|lia|omega))) (byd_mono sw fun i j _ h1 h2=>pw_at sw sa h1 (by first | (first|lia|omega) | (dsimp only at *; (first|lia|omega)))) fun k k1 k2 k3=>?_)
      try dsimp -zeta only
      have n2:∀ i,i < k->i < a.size->Nl lt (itA a i) (itA b (nb - 1)):=fun i i1 i2=>by
       have q:=byd_ft (k2 i i1)
       rw [Nat.zero_add] at q
       exact q
      generalize hac:na - k=ac2
      apply dup2 (fun (out2:Array Keyed) (na2:Nat)=>MH lt (a.toList ++ b.toList) out2.toList.reverse (a.toList.take na2) (b.toList.take nb)/\out2.size + (na2 + nb)=a.size + b.size/\0 < na2/\na2<=a.size/\x + 2<=out2.size/\∀ i,i < na2->i < a.size->Nl lt (itA a i) (itA b (nb - 1)))
      case main=>
       intro rest
       refine wpS_iteI (fun k0=>?_) (fun k0=>?_)
       ·skip
        have m2:=partA out na nb k m.mh k1 (fun i j i1 i2 i3 j1 j2=>by
         have q:=byd_ff (k3 i i1 i2)
         rw [Nat.zero_add] at q
         exact sw.trans (pw_at sw sb (by first | (first|lia|omega) | (dsimp only at *; (first|lia|omega))) (by first | (first|lia|omega) | (dsimp only at *; (first|lia|omega)))) (sw.of_lt q))
        have z2:(out ++ (a.extract k na).reverse).size + (k + nb)=a.size + b.size:=by
         rw [Array.size_append,Array.size_reverse,Array.size_extract]
         (first|lia|omega)
        refine wpS_beqI (fun q1=>wpS_pure ⟨_,rfl,.inl ⟨_,rfl,doneA _ _ _ m2 q1⟩⟩) fun q1=>?_
        obtain ⟨out2,eo⟩:∃ o,o=out ++ (a.extract k na).reverse:=⟨_,rfl⟩
        obtain ⟨na2,ei⟩:∃ o,o=k:=⟨_,rfl⟩
        rw [<-eo] at m2 z2
        rw [<-eo,<-ei]
        rw [<-ei] at m2 z2 n2
        exact rest out2 na2 ⟨m2,z2,by (first|lia|omega),by (first|lia|omega),by (first|lia|omega),n2⟩
       ·exact rest out na ⟨m.mh,hsz,ha,la,hx,fun i i1 i2=>n2 i (by (first|lia|omega)) i2⟩
      case leaf=>
       rintro out2 na2 ⟨m2,z2,p1,p2,hx2',n2⟩
       refine wpS_bind (wpS_elemG (by (first|lia|omega)) ?_)
       have m3:=pushB out2 na2 nb m2 (by (first|lia|omega)) lb n2
       have z3:(out2.push (itA b (nb - 1))).size + (na2 + (nb - 1))=a.size + b.size:=by rw [Array.size_push]; (first|lia|omega)
       refine wpS_beqI (fun q3=>wpS_pure ⟨_,rfl,.inl ⟨_,rfl,firstB _ _ _ m3 q3⟩⟩) fun q3=>?_
       refine wpS_bind (wpS_elemG (by (first|lia|omega)) ?_)
       refine wpS_bind (wpS_gallopG (left:=true) an hk (ma _ (by (first|lia|omega))) (fun i hi=>mb _ (by (first|lia|omega))) (by (first|lia|omega)) (by (first|lia|omega)) (byd_mono sw fun i j _ h1 h2=>pw_at sw sb h1 (by (first|lia|omega))) fun l l1 l2 l3=>?_)
       try dsimp -zeta only
       have n4:∀ i,i < l->i < b.size->Nl lt (itA b i) (itA a (na2 - 1)):=fun i i1 i2=>by
        have q:=byd_tt (l2 i i1)
        rw [Nat.zero_add] at q
        exact sw.of_lt q
       generalize hbc:nb - 1 - l=bc2
       apply dup2 (fun (out3:Array Keyed) (nb2:Nat)=>MH lt (a.toList ++ b.toList) out3.toList.reverse (a.toList.take na2) (b.toList.take nb2)/\out3.size + (na2 + nb2)=a.size + b.size/\1 < nb2/\nb2<=b.size/\x + 2<=out3.size/\∀ i,i < nb2->i < b.size->Nl lt (itA b i) (itA a (na2 - 1)))
       case main=>
        intro rest
        refine wpS_iteI (fun l0=>?_) (fun l0=>?_)
        ·skip
         have m4:=partB _ na2 (nb - 1) l m3 l1 (fun i j i1 i2 i3 j1 j2=>by
          have q:=byd_tf (l3 i i1 i2)
          rw [Nat.zero_add] at q
          exact sw.trans (pw_at sw sa (by (first|lia|omega)) (by (first|lia|omega))) q)
         have z4:(out2.push (itA b (nb - 1)) ++ (b.extract l (nb - 1)).reverse).size + (na2 + l)=a.size + b.size:=by
          rw [Array.size_append,Array.size_reverse,Array.size_extract]
          (first|lia|omega)
         refine wpS_beqI (fun q1=>wpS_pure ⟨_,rfl,.inl ⟨_,rfl,firstB _ _ _ m4 q1⟩⟩) fun q1=>?_
         refine wpS_beqI (fun q2=>wpS_pure ⟨_,rfl,.inl ⟨_,rfl,doneB _ _ _ m4 q2⟩⟩) fun q2=>?_
         obtain ⟨out3,eo3⟩:∃ o,o=out2.push (itA b (nb - 1)) ++ (b.extract l (nb - 1)).reverse:=⟨_,rfl⟩
         obtain ⟨nb2,ei3⟩:∃ o,o=l:=⟨_,rfl⟩
         rw [<-eo3] at m4 z4
         rw [<-eo3,<-ei3]
         rw [<-ei3] at m4 z4 n4
         exact rest out3 nb2 ⟨m4,z4,by (first|lia|omega),by (first|lia|omega),by (first|lia|omega),n4⟩
        ·exact rest _ (nb - 1) ⟨m3,z3,by (first|lia|omega),by (first|lia|omega),by rw [Array.size_push]; (first|lia|omega),fun i i1 i2=>n4 i (by (first|lia|omega)) i2⟩
       case leaf=>
        rintro out3 nb2 ⟨m4,z4,p3,p4,hx3,n4⟩
        refine wpS_bind (wpS_elemG (by (first|lia|omega)) ?_)
        have m5:=pushA out3 na2 nb2 m4 p1 p2 n4
        have z5:(out3.push (itA a (na2 - 1))).size + (na2 - 1 + nb2)=a.size + b.size:=by rw [Array.size_push]; (first|lia|omega)
        refine wpS_beqI (fun q5=>wpS_pure ⟨_,rfl,.inl ⟨_,rfl,doneA _ _ _ m5 q5⟩⟩) fun q5=>?_
        have mm:MHo lt a b (out3.push (itA a (na2 - 1))) (na2 - 1) nb2:=⟨m5,by (first|lia|omega),p3,by (first|lia|omega),p4,z5⟩
        have hx5:x + 2<=(out3.push (itA a (na2 - 1))).size:=by rw [Array.size_push]; (first|lia|omega)
        refine wpS_iteI (fun _=>wpS_pure ⟨_,rfl,.inr ⟨_,_,_,_,_,_,rfl,mm,hx5⟩⟩) (fun _=>wpS_pure ⟨_,_,_,_,_,_,_,rfl,rfl,mm,hx5⟩)
end
end L2
namespace L2
open PySem PySem.W PyProof.Rows
section segs
variable {lt:Keyed->Keyed->Bool}
def SS (lt:Keyed->Keyed->Bool) (xs:Array Keyed) (lo hi:Nat):Prop:=∀ i j,lo<=i->i<=j->j < hi->Nl lt (itA xs i) (itA xs j)
def NS (lt:Keyed->Keyed->Bool) (xs:Array Keyed) (lo hi:Nat):Prop:=∀ i j,lo<=i->i<=j->j < hi->Nl lt (itA xs j) (itA xs i)
theorem itA_mirror {xs:Array Keyed} {i j:Nat} (hj:j<=xs.size) (k:Nat):itA (mirror xs i j ((j - i) / 2)) k=if i<=k/\k < j then itA xs (i + j - 1 - k) else itA xs k:=by
 have e:=getElem?_mirror_all (i:=i) hj k
 split at e
 ·rw [if_pos ‹_›]; exact itA_eq e
 ·rw [if_neg ‹_›]; exact itA_eq e
theorem itA_bubble {xs:Array Keyed} {src d:Nat} (hs:src < xs.size) (hd:d<=src) (k:Nat) :
  itA (bubble xs src d) k=if k=src - d then itA xs src else if src - d < k/\k<=src then itA xs (k - 1) else itA xs k:=by
 have e:=getElem?_bubble hs d hd k
 by_cases h1:k=src - d
 ·rw [if_pos h1] at e ⊢; exact itA_eq e
 ·by_cases h2:src - d < k/\k<=src
  ·rw [if_neg h1,if_pos h2] at e ⊢; exact itA_eq e
  ·rw [if_neg h1,if_neg h2] at e ⊢; exact itA_eq e
theorem NS.mirror {xs:Array Keyed} {lo hi:Nat} (h:NS lt xs lo hi) (hs:hi<=xs.size):SS lt (mirror xs lo hi ((hi - lo) / 2)) lo hi:=by
 intro i j h1 h2 h3
 rw [itA_mirror hs,itA_mirror hs,if_pos ⟨h1,by (first|lia|omega)⟩,if_pos ⟨by (first|lia|omega),h3⟩]
 exact h _ _ (by (first|lia|omega)) (by (first|lia|omega)) (by (first|lia|omega))
theorem NS.even {xs:Array Keyed} {lo p hi:Nat} (h:NS lt xs lo hi) (hs:hi<=xs.size) (hp:lo<=p) (e:∀ i j,p<=i->i < hi->p<=j->j < hi->Nl lt (itA xs i) (itA xs j)) {top:Nat} (ht:hi<=top) (h':NS lt xs lo top) :
  NS lt (PyProof.Rows.mirror xs p hi ((hi - p) / 2)) lo top:=by
 intro i j h1 h2 h3
 rw [itA_mirror hs,itA_mirror hs]
 by_cases c1:p<=j/\j < hi
 ·rw [if_pos c1]
  by_cases c2:p<=i/\i < hi
  ·rw [if_pos c2]
   exact e _ _ (by (first|lia|omega)) (by (first|lia|omega)) (by (first|lia|omega)) (by (first|lia|omega))
  ·rw [if_neg c2]
   exact h' _ _ h1 (by (first|lia|omega)) (by (first|lia|omega))
 ·rw [if_neg c1]
  by_cases c2:p<=i/\i < hi
  ·rw [if_pos c2]
   exact h' _ _ (by (first|lia|omega)) (by (first|lia|omega)) h3
  ·rw [if_neg c2]
   exact h' _ _ h1 h2 h3
def Kp (xs ys:Array Keyed) (lo:Nat):Prop:=ys.Perm xs/\∀ k,k < lo->itA ys k=itA xs k
theorem Kp.refl (xs:Array Keyed) (lo:Nat):Kp xs xs lo:=⟨Array.Perm.refl _,fun _ _=>rfl⟩
theorem Kp.size {xs ys:Array Keyed} {lo:Nat} (h:Kp xs ys lo):ys.size=xs.size:=h.1.size_eq
theorem Kp.mirror {xs ys:Array Keyed} {lo i j:Nat} (h:Kp xs ys lo) (hj:j<=xs.size) (hi:lo<=i):Kp xs (PyProof.Rows.mirror ys i j ((j - i) / 2)) lo:=by
 refine ⟨(mirror_perm _ _ _ _).trans h.1,fun k hk=>?_⟩
 rw [itA_mirror (by rw [h.size]; exact hj),if_neg (by (first|lia|omega))]
 exact h.2 k hk
theorem Kp.bubble {xs ys:Array Keyed} {lo src d:Nat} (h:Kp xs ys lo) (hs:src < xs.size) (hd:lo + d<=src):Kp xs (PyProof.Rows.bubble ys src d) lo:=by
 refine ⟨(bubble_perm _ _ _).trans h.1,fun k hk=>?_⟩
 rw [itA_bubble (by rw [h.size]; exact hs) (by (first|lia|omega)),if_neg (by (first|lia|omega)),if_neg (by (first|lia|omega))]
 exact h.2 k hk
end segs
section
variable {prog:Program} {w:World} {A:Around} {E:Value->Shared->Prop} {s:Shared} {κ:SortKind} {lt:Keyed->Keyed->Bool} {a0:Array Keyed}
theorem wpS_revG {i j:Nat} {Q:Unit->SortSt->Prop} {st:SortSt} (h:Q () (setArr st (mirror (arrOf st) i j ((j - i) / 2)))):wpS (model prog w) A E s (reverseSlice' i j) Q st:=by
 rw [reverseSlice'_eq]
 exact wpS_modify h
theorem wpS_upG {body:Nat->Option (Option Nat) × Nat->StateT SortSt Sem (ForInStep (Option (Option Nat) × Nat))} {f:Nat->Bool} {a nrem:Nat} {st:SortSt} (ha:a<=nrem)
  (hb:∀ x n (R:ForInStep (Option (Option Nat) × Nat)->SortSt->Prop),a<=n->n < nrem->(f n=true->R (.done (none,n)) st)->(f n=false->R (.yield (none,n + 1)) st)->wpS (model prog w) A E s (body x (none,n)) R st) :
  wpS (model prog w) A E s (forIn [a:nrem] (none,a) body) (fun c st'=>st'=st/\∃ n,c=(none,n)/\a<=n/\n<=nrem/\(∀ i,a<=i->i < n->f i=false)/\(n=nrem\/f n=true)) st:=by
 refine wpS_forRange (I:=fun x c st'=>st'=st/\c=(none,x)/\(∀ i,a<=i->i < x->f i=false)) ?_ ?_ ⟨rfl,rfl,fun i h1 h2=>by (first|lia|omega)⟩
 ·rintro x c st' h1 h2 ⟨rfl,rfl,q⟩
  refine hb _ _ _ h1 h2 (fun e=>⟨rfl,x,rfl,h1,by (first|lia|omega),q,.inr e⟩) (fun e=>⟨rfl,rfl,fun i i1 i2=>?_⟩)
  by_cases z:i=x
  ·rw [z]; exact e
  ·exact q i i1 (by (first|lia|omega))
 ·rintro c st' ⟨rfl,rfl,q⟩
  rw [Nat.max_eq_right ha] at q ⊢
  exact ⟨rfl,nrem,rfl,ha,Nat.le_refl _,q,.inl rfl⟩
theorem ss_up {xs:Array Keyed} (sw:Swo lt) {lo a n:Nat} (h:SS lt xs lo (lo + a)) (ha:1<=a) (q:∀ i,a<=i->i < n->lt (itA xs (lo + i)) (itA xs (lo + i - 1))=false):SS lt xs lo (lo + n):=by
 have step:∀ d,a + d<=n->SS lt xs lo (lo + (a + d)):=by
  intro d
  induction d with
  | zero=>intro _; exact h
  | succ d ih=>
   intro hd i j h1 h2 h3
   by_cases hj:j < lo + (a + d)
   ·exact ih (by (first|lia|omega)) i j h1 h2 hj
   ·have ej:j=lo + (a + d):=by (first|lia|omega)
    by_cases hi:i=j
    ·rw [hi]; exact sw.rfl' _
    ·have q1:=q (a + d) (by (first|lia|omega)) (by (first|lia|omega))
     rw [<-ej] at q1
     exact sw.trans (ih (by (first|lia|omega)) i (j - 1) h1 (by (first|lia|omega)) (by (first|lia|omega))) q1
 rcases Nat.lt_or_ge n a with hlt | hge
 ·exact fun i j h1 h2 h3=>h i j h1 h2 (by (first|lia|omega))
 ·have:=step (n - a) (by (first|lia|omega))
  rw [show a + (n - a)=n by (first|lia|omega)] at this
  exact this
theorem wpS_countRunG {lo nrem:Nat} {Q:Option Nat->SortSt->Prop} {st:SortSt} (sw:Swo lt) (an:Ans prog w A s κ lt a0) (hk:kindOf st=κ) (hp:(arrOf st).Perm a0) (hn:lo + nrem<=a0.size) (h1:1<=nrem)
  (h:∀ m ys,Kp (arrOf st) ys lo->1<=m->m<=nrem->SS lt ys lo (lo + m)->Q (some m) (setArr st ys)):wpS (model prog w) A E s (countRun' lo nrem) Q st:=by
 have hz:=hp.size_eq
 refine wpS_bind (wpS_mono (wpS_upG (f:=fun n=>lt (itA (arrOf st) (lo + n)) (itA (arrOf st) (lo + n - 1))) h1 ?_) ?_)
 ·intro x n R n1 n2 y1 y2
  dsimp only
  refine wpS_bind (wpS_ltAtG an hk hp (by (first|lia|omega)) (by (first|lia|omega)) ?_)
  dsimp only
  cases e:lt (itA (arrOf st) (lo + n)) (itA (arrOf st) (lo + n - 1))
  ·exact wpS_pure (y2 e)
  ·exact wpS_pure (y1 e)
 rintro c st' ⟨rfl,n,rfl,n1,n2,q,hor⟩
 dsimp only
 have s0:SS lt (arrOf st') lo (lo + 1):=fun i j a1 a2 a3=>by
  have:i=j:=by (first|lia|omega)
  rw [this]
  exact sw.rfl' _
 have sn:SS lt (arrOf st') lo (lo + n):=ss_up sw s0 (Nat.le_refl _) q
 by_cases hnn:n=nrem
 ·rw [if_pos (by simpa using hnn)]
  exact wpS_pure (h n _ (Kp.refl _ _) n1 n2 sn)
 rw [if_neg (by simpa using hnn)]
 have hlt:lt (itA (arrOf st') (lo + n)) (itA (arrOf st') (lo + n - 1))=true:=hor.resolve_left hnn
 by_cases hgt:n > 1
 case' pos=>
  rw [if_pos hgt]
  refine wpS_bind (wpS_ltAtG an hk hp (by (first|lia|omega)) (by (first|lia|omega)) ?_)
  dsimp only
  cases hrose:lt (itA (arrOf st') lo) (itA (arrOf st') (lo + n - 1))
  case' true=>
   simp only [if_true]
   exact wpS_pure (h n _ (Kp.refl _ _) n1 n2 sn)
  case' false=>
   simp only [Bool.false_eq_true,if_false]
   refine wpS_bind (wpS_revG ?_)
   have even:∀ i j,lo<=i->i < lo + n->lo<=j->j < lo + n->Nl lt (itA (arrOf st') i) (itA (arrOf st') j):=by
    intro i j a1 a2 a3 a4
    have b1:=sn lo j (Nat.le_refl _) a3 a4
    have b2:=sn i (lo + n - 1) a1 (by (first|lia|omega)) (by (first|lia|omega))
    exact sw.trans (sw.trans b2 hrose) b1
   have ns0:NS lt (arrOf st') lo (lo + n):=fun i j a1 a2 a3=>even j i (by (first|lia|omega)) a3 a1 (by (first|lia|omega))
   have ns1:NS lt (arrOf st') lo (lo + (n + 1)):=by
    intro i j a1 a2 a3
    by_cases hj:j < lo + n
    ·exact ns0 i j a1 a2 hj
    ·have ej:j=lo + n:=by (first|lia|omega)
     by_cases hi:i=j
     ·rw [hi]; exact sw.rfl' _
     ·rw [ej]
      exact sw.trans (sw.of_lt hlt) (even _ _ (by (first|lia|omega)) (by (first|lia|omega)) a1 (by (first|lia|omega)))
   have kp:Kp (arrOf st') (mirror (arrOf st') lo (lo + n) ((lo + n - lo) / 2)) lo:=(Kp.refl _ _).mirror (by (first|lia|omega)) (Nat.le_refl _)
   have ns:NS lt (mirror (arrOf st') lo (lo + n) ((lo + n - lo) / 2)) lo (lo + (n + 1)):=ns0.even (by (first|lia|omega)) (Nat.le_refl _) even (by (first|lia|omega)) ns1
   obtain ⟨ys,ey⟩:∃ ys,ys=mirror (arrOf st') lo (lo + n) ((lo + n - lo) / 2):=⟨_,rfl⟩
   rw [<-ey] at kp ns
   show wpS (model prog w) A E s _ Q (setArr st' (mirror (arrOf st') lo (lo + n) ((lo + n - lo) / 2)))
   rw [<-ey]
 case' neg=>
  rw [if_neg hgt]
  have en:n=1:=by (first|lia|omega)
  have kp:Kp (arrOf st') (arrOf st') lo:=Kp.refl _ _
  have ns:NS lt (arrOf st') lo (lo + (n + 1)):=by
   intro i j a1 a2 a3
   by_cases hi:i=j
   ·rw [hi]; exact sw.rfl' _
   ·have e1:j=lo + n:=by (first|lia|omega)
    have e2:i=lo + n - 1:=by (first|lia|omega)
    rw [e1,e2]
    exact sw.of_lt hlt
  obtain ⟨ys,ey⟩:∃ ys,ys=arrOf st':=⟨_,rfl⟩
  rw [<-ey] at ns
  have kp:Kp (arrOf st') ys lo:=by rw [ey]; exact Kp.refl _ _
  show wpS (model prog w) A E s _ Q (setArr st' (arrOf st'))
  rw [<-ey]
 all_goals
  refine wpS_bind (wpS_lift (wpAny_rule ⟨rfl,?_⟩))
  refine wpS_bind (wpS_mono (wpS_forRange (I:=fun x c st''=>∃ neq ys,c=(none,x,neq)/\st''=setArr st' ys/\Kp (arrOf st') ys lo/\NS lt ys lo (lo + x)/\neq + 1<=x /\
    (∀ i j,lo + x - (neq + 1)<=i->i < lo + x->lo + x - (neq + 1)<=j->j < lo + x->Nl lt (itA ys i) (itA ys j)))
   (Q:=fun c st''=>∃ m neq ys,c=(none,m,neq)/\st''=setArr st' ys/\Kp (arrOf st') ys lo/\n + 1<=m/\m<=nrem/\NS lt ys lo (lo + m)/\neq + 1<=m /\
    (∀ i j,lo + m - (neq + 1)<=i->i < lo + m->lo + m - (neq + 1)<=j->j < lo + m->Nl lt (itA ys i) (itA ys j))) ?dstep ?dfin ?dinit) ?dpost)
  case dinit=>
   refine ⟨0,ys,rfl,rfl,kp,ns,by (first|lia|omega),fun i j a1 a2 a3 a4=>?_⟩
   have:i=j:=by (first|lia|omega)
   rw [this]
   exact sw.rfl' _
  case dfin=>
   rintro c st'' ⟨neq,ys,rfl,rfl,kp,ns,a1,a2⟩
   have e:max (n + 1) nrem=nrem:=by (first|lia|omega)
   rw [e] at ns a1 a2 ⊢
   exact ⟨nrem,neq,ys,rfl,rfl,kp,by (first|lia|omega),Nat.le_refl _,ns,a1,a2⟩
  case dstep=>
   rintro x c st'' x1 x2 ⟨neq,ys,rfl,rfl,kp,ns,a1,a2⟩
   dsimp only
   have hzy:=kp.size
   have hpy:(arrOf (setArr st' ys)).Perm a0:=kp.1.trans hp
   refine wpS_bind (wpS_ltAtG (st:=setArr st' ys) an hk hpy (by (first|lia|omega)) (by (first|lia|omega)) ?_)
   dsimp only
   cases hless:lt (itA ys (lo + x)) (itA ys (lo + x - 1))
   ·simp only [Bool.false_eq_true,if_false]
    refine wpS_bind (wpS_ltAtG (st:=setArr st' ys) an hk hpy (by (first|lia|omega)) (by (first|lia|omega)) ?_)
    dsimp only
    cases hlarger:lt (itA ys (lo + x - 1)) (itA ys (lo + x))
    ·simp only [Bool.false_eq_true,if_false]
     refine wpS_pure ⟨neq + 1,ys,rfl,rfl,kp,?_,by (first|lia|omega),?_⟩
     ·intro i j b1 b2 b3
      by_cases hj:j < lo + x
      ·exact ns i j b1 b2 hj
      ·have ej:j=lo + x:=by (first|lia|omega)
       by_cases hi:i=j
       ·rw [hi]; exact sw.rfl' _
       ·rw [ej]
        exact sw.trans hlarger (ns _ _ b1 (by (first|lia|omega)) (by (first|lia|omega)))
     ·have pin:∀ i,lo + (x + 1) - (neq + 1 + 1)<=i->i < lo + (x + 1)->Nl lt (itA ys i) (itA ys (lo + x - 1))/\Nl lt (itA ys (lo + x - 1)) (itA ys i):=by
       intro i b1 b2
       by_cases hi:i=lo + x
       ·rw [hi]
        exact ⟨hlarger,hless⟩
       ·exact ⟨a2 _ _ (by (first|lia|omega)) (by (first|lia|omega)) (by (first|lia|omega)) (by (first|lia|omega)),a2 _ _ (by (first|lia|omega)) (by (first|lia|omega)) (by (first|lia|omega)) (by (first|lia|omega))⟩
      intro i j b1 b2 b3 b4
      exact sw.trans (pin i b1 b2).1 (pin j b3 b4).2
    ·simp only [if_true]
     exact wpS_pure ⟨x,neq,ys,rfl,rfl,kp,x1,by (first|lia|omega),ns,a1,a2⟩
   ·simp only [if_true]
    have ns':NS lt ys lo (lo + (x + 1)):=by
     intro i j b1 b2 b3
     by_cases hj:j < lo + x
     ·exact ns i j b1 b2 hj
     ·have ej:j=lo + x:=by (first|lia|omega)
      by_cases hi:i=j
      ·rw [hi]; exact sw.rfl' _
      ·rw [ej]
       exact sw.trans (sw.of_lt hless) (ns _ _ b1 (by (first|lia|omega)) (by (first|lia|omega)))
    have one:∀ (zs:Array Keyed) i j,lo + (x + 1) - (0 + 1)<=i->i < lo + (x + 1)->lo + (x + 1) - (0 + 1)<=j->j < lo + (x + 1)->Nl lt (itA zs i) (itA zs j):=by
     intro zs i j b1 b2 b3 b4
     have:i=j:=by (first|lia|omega)
     rw [this]
     exact sw.rfl' _
    by_cases hq:neq > 0
    ·rw [if_pos hq]
     refine wpS_bind (wpS_revG (wpS_pure ⟨0,_,rfl,rfl,kp.mirror (by (first|lia|omega)) (by (first|lia|omega)),?_,by (first|lia|omega),one _⟩))
     exact ns.even (by show _<=ys.size; (first|lia|omega)) (by (first|lia|omega)) a2 (by (first|lia|omega)) ns'
    ·rw [if_neg hq]
     exact wpS_pure ⟨0,ys,rfl,rfl,kp,ns',by (first|lia|omega),one _⟩
  case dpost=>
   rintro c st'' ⟨m,neq,zs,rfl,rfl,kz,m1,m2,nz,a1,a2⟩
   dsimp only
   have hzz:=kz.size
   by_cases hq:neq > 0
   case' pos=>
    rw [if_pos hq]
    refine wpS_bind (wpS_revG ?_)
    have kz':Kp (arrOf st') (mirror zs (lo + m - (neq + 1)) (lo + m) ((lo + m - (lo + m - (neq + 1))) / 2)) lo:=kz.mirror (by (first|lia|omega)) (by (first|lia|omega))
    have nz':NS lt (mirror zs (lo + m - (neq + 1)) (lo + m) ((lo + m - (lo + m - (neq + 1))) / 2)) lo (lo + m):=nz.even (by (first|lia|omega)) (by (first|lia|omega)) a2 (Nat.le_refl _) nz
    obtain ⟨us,eu⟩:∃ us,us=mirror zs (lo + m - (neq + 1)) (lo + m) ((lo + m - (lo + m - (neq + 1))) / 2):=⟨_,rfl⟩
    rw [<-eu] at kz' nz'
    show wpS (model prog w) A E s _ Q (setArr st' (mirror zs (lo + m - (neq + 1)) (lo + m) ((lo + m - (lo + m - (neq + 1))) / 2)))
    rw [<-eu]
   case' neg=>
    rw [if_neg hq]
    obtain ⟨us,eu⟩:∃ us,us=zs:=⟨_,rfl⟩
    have kz':Kp (arrOf st') us lo:=by rw [eu]; exact kz
    have nz':NS lt us lo (lo + m):=by rw [eu]; exact nz
    rw [<-eu]
   all_goals
    have hzu:=kz'.size
    refine wpS_bind (wpS_revG ?_)
    show wpS (model prog w) A E s _ Q (setArr st' (mirror us lo (lo + m) ((lo + m - lo) / 2)))
    have kv:Kp (arrOf st') (mirror us lo (lo + m) ((lo + m - lo) / 2)) lo:=kz'.mirror (by (first|lia|omega)) (Nat.le_refl _)
    have sv:SS lt (mirror us lo (lo + m) ((lo + m - lo) / 2)) lo (lo + m):=nz'.mirror (by (first|lia|omega))
    obtain ⟨vs,ev⟩:∃ vs,vs=mirror us lo (lo + m) ((lo + m - lo) / 2):=⟨_,rfl⟩
    rw [<-ev] at kv sv
    rw [<-ev]
    have hzv:=kv.size
    refine wpS_bind (wpS_mono (wpS_upG (f:=fun n=>lt (itA vs (lo + n)) (itA vs (lo + n - 1))) m2 ?_) ?_)
    ·intro x n R n1 n2 y1 y2
     dsimp only
     refine wpS_bind (wpS_ltAtG (st:=setArr st' vs) an hk (kv.1.trans hp) (by (first|lia|omega)) (by (first|lia|omega)) ?_)
     dsimp only
     cases e:lt (itA vs (lo + n)) (itA vs (lo + n - 1))
     ·exact wpS_pure (y2 e)
     ·exact wpS_pure (y1 e)
    rintro c st3 ⟨rfl,n',rfl,b1,b2,b3,_⟩
    exact wpS_pure (h n' vs kv (by (first|lia|omega)) b2 (ss_up sw sv (by (first|lia|omega)) b3))
theorem wpS_binarySortG {lo n ok:Nat} {Q:Bool->SortSt->Prop} {st:SortSt} (sw:Swo lt) (an:Ans prog w A s κ lt a0) (hk:kindOf st=κ) (hp:(arrOf st).Perm a0) (hn:lo + n<=a0.size) (h1:1<=ok) (hok:ok<=n)
  (hs:SS lt (arrOf st) lo (lo + ok)) (h:∀ ys,Kp (arrOf st) ys lo->SS lt ys lo (lo + n)->Q true (setArr st ys)):wpS (model prog w) A E s (binarySort' lo n ok) Q st:=by
 have hz:=hp.size_eq
 refine wpS_bind (wpS_mono (wpS_forRange (I:=fun k c st'=>c=(none,())/\∃ ys,st'=setArr st ys/\Kp (arrOf st) ys lo/\SS lt ys lo (lo + k))
  (Q:=fun c st'=>c=(none,())/\∃ ys,st'=setArr st ys/\Kp (arrOf st) ys lo/\SS lt ys lo (lo + n)) ?step ?fin ?init) ?post)
 case init=>
  rw [Nat.max_eq_left h1]
  exact ⟨rfl,arrOf st,rfl,Kp.refl _ _,hs⟩
 case fin=>
  rintro c st' ⟨rfl,ys,rfl,kp,ss⟩
  rw [show max (max ok 1) n=n by (first|lia|omega)] at ss
  exact ⟨rfl,ys,rfl,kp,ss⟩
 case post=>
  rintro c st' ⟨rfl,ys,rfl,kp,ss⟩
  exact wpS_pure (h ys kp ss)
 case step=>
  rintro k c st' k1 k2 ⟨rfl,ys,rfl,kp,ss⟩
  dsimp only
  have hzy:=kp.size
  have hpy:(arrOf (setArr st ys)).Perm a0:=kp.1.trans hp
  refine wpS_bind (wpS_mono (wpS_narrowG (f:=fun m=>!(lt (itA ys (lo + k)) (itA ys (lo + m)))) (n:=k) ?_ ?_ (Nat.zero_le _) (Nat.le_refl _) ?_ ?_ ?_) ?_)
  ·intro x l R hR
   dsimp only
   rw [if_pos (Nat.le_refl _)]
   exact wpS_pure hR
  ·intro x l r R hlr hrk y1 y2
   dsimp only
   rw [if_neg (by (first|lia|omega)),show (l + r) / 2=l + (r - l) / 2 by (first|lia|omega)]
   refine wpS_bind (wpS_ltAtG (st:=setArr st ys) an hk hpy (by (first|lia|omega)) (by (first|lia|omega)) ?_)
   dsimp only
   cases e:lt (itA ys (lo + k)) (itA ys (lo + (l + (r - l) / 2)))
   ·exact wpS_pure (y1 (by rw [e]; rfl))
   ·exact wpS_pure (y2 (by rw [e]; rfl))
  ·intro i j hij hj e
   simp only [Bool.not_eq_true'] at e ⊢
   exact sw.trans (ss _ _ (by (first|lia|omega)) (by (first|lia|omega)) (by (first|lia|omega))) e
  ·intro i hi
   (first|lia|omega)
  ·intro i hi1 hi2
   (first|lia|omega)
  ·rintro c st2 ⟨rfl,r,rfl,r1,r2,r3⟩
   refine wpS_bind ?_
   rw [show (sortPriv% PySem.Builtin.moveDown)=moveDown' from rfl,moveDown'_eq]
   refine wpS_modify (wpS_pure ⟨rfl,bubble ys (lo + k) (lo + k - (lo + r)),rfl,kp.bubble (by (first|lia|omega)) (by (first|lia|omega)),?_⟩)
   intro i j a1 a2 a3
   rw [itA_bubble (by (first|lia|omega)) (by (first|lia|omega)),itA_bubble (by (first|lia|omega)) (by (first|lia|omega))]
   have g1:∀ m,lo<=m->m < lo + r->Nl lt (itA ys m) (itA ys (lo + k)):=fun m b1 b2=>by
    have q:=r2 (m - lo) (by (first|lia|omega))
    simp only [Bool.not_eq_true'] at q
    rw [show lo + (m - lo)=m by (first|lia|omega)] at q
    exact q
   have g2:∀ m,lo + r<=m->m < lo + k->Nl lt (itA ys (lo + k)) (itA ys m):=fun m b1 b2=>by
    have q:=r3 (m - lo) (by (first|lia|omega)) (by (first|lia|omega))
    simp only [Bool.not_eq_false'] at q
    rw [show lo + (m - lo)=m by (first|lia|omega)] at q
    exact sw.of_lt q
   repeat' split
   all_goals first
    | exact sw.rfl' _
    | exact g1 _ (by (first|lia|omega)) (by (first|lia|omega))
    | exact g2 _ (by (first|lia|omega)) (by (first|lia|omega))
    | exact ss _ _ (by (first|lia|omega)) (by (first|lia|omega)) (by (first|lia|omega))
    | (exfalso; (first|lia|omega))
end
end L2
namespace L2
open PySem PySem.W PyProof.Rows
section
variable {lt:Keyed->Keyed->Bool}
theorem itA_list (xs:Array Keyed) (i:Nat):itA xs i=xs.toList.getD i (Value.none,Value.none):=by
 unfold itA
 rw [Array.getD_eq_getD_getElem?,List.getD_eq_getElem?_getD,Array.getElem?_toList]
theorem itA_extract {xs:Array Keyed} {a b i:Nat} (h1:a + i < b) (h2:b<=xs.size):itA (xs.extract a b) i=itA xs (a + i):=by
 apply itA_eq
 rw [Array.getElem?_extract,if_pos (by (first|lia|omega))]
theorem put_back (base:Nat):∀ (l:List Keyed) (off:Nat) (xs:Array Keyed),base + off + l.length<=xs.size ->
  ((l.zipIdx off).foldl (fun a x=>a.setIfInBounds (base + x.2) x.1) xs).toList=xs.toList.take (base + off) ++ l ++ xs.toList.drop (base + off + l.length)
 | [],off,xs,h=>by simp
 | y :: l,off,xs,h=>by
  rw [List.zipIdx_cons,List.foldl_cons]
  have hl:base + off < xs.toList.length:=by simp at h ⊢; (first|lia|omega)
  rw [put_back base l (off + 1) (xs.setIfInBounds (base + off) y) (by rw [Array.size_setIfInBounds]; simp at h ⊢; (first|lia|omega))]
  rw [Array.toList_setIfInBounds,<-Nat.add_assoc,List.take_succ,List.take_set_of_le (Nat.le_refl _),List.getElem?_set_self hl,List.drop_set_of_lt (by (first|lia|omega))]
  simp only [Option.toList,List.length_cons]
  rw [show base + off + 1 + l.length=base + off + (l.length + 1) by (first|lia|omega)]
  simp
theorem getD_app1 {a b:List Keyed} {k:Nat} {d:Keyed} (h:k < a.length):(a ++ b).getD k d=a.getD k d:=by
 rw [List.getD_eq_getElem?_getD,List.getD_eq_getElem?_getD,List.getElem?_append_left h]
theorem getD_app2 {a b:List Keyed} {k:Nat} {d:Keyed} (h:a.length<=k):(a ++ b).getD k d=b.getD (k - a.length) d:=by
 rw [List.getD_eq_getElem?_getD,List.getD_eq_getElem?_getD,List.getElem?_append_right h]
theorem SS.congr {xs ys:Array Keyed} {lo hi:Nat} (h:SS lt xs lo hi) (e:∀ k,lo<=k->k < hi->itA ys k=itA xs k):SS lt ys lo hi:=by
 intro i j h1 h2 h3
 rw [e i h1 (by (first|lia|omega)),e j (by (first|lia|omega)) h3]
 exact h i j h1 h2 h3
def Cov (lt:Keyed->Keyed->Bool) (xs:Array Keyed):Nat->List (Nat × Nat)->Nat->Prop
 | a,[],b=>a=b
 | a,(s,n) :: r,b=>s=a/\1<=n/\SS lt xs a (a + n)/\Cov lt xs (a + n) r b
theorem Cov.app {xs:Array Keyed}:∀ {l1 l2:List (Nat × Nat)} {a b:Nat},Cov lt xs a (l1 ++ l2) b ↔ ∃ m,Cov lt xs a l1 m/\Cov lt xs m l2 b
 | [],l2,a,b=>by simp [Cov]
 | (s,n) :: r,l2,a,b=>by
  simp only [List.cons_append,Cov,Cov.app (l1:=r) (l2:=l2)]
  constructor
  ·rintro ⟨h1,h2,h3,m,h4,h5⟩
   exact ⟨m,⟨h1,h2,h3,h4⟩,h5⟩
  ·rintro ⟨m,⟨h1,h2,h3,h4⟩,h5⟩
   exact ⟨h1,h2,h3,m,h4,h5⟩
theorem Cov.le {xs:Array Keyed}:∀ {l:List (Nat × Nat)} {a b:Nat},Cov lt xs a l b->a + l.length<=b
 | [],a,b,h=>by simp [Cov] at h; simp [h]
 | (s,n) :: r,a,b,h=>by
  have:=Cov.le h.2.2.2
  have:=h.2.1
  simp only [List.length_cons]
  (first|lia|omega)
theorem Cov.congr {xs ys:Array Keyed}:∀ {l:List (Nat × Nat)} {a b:Nat},Cov lt xs a l b->(∀ k,a<=k->k < b->itA ys k=itA xs k)->Cov lt ys a l b
 | [],a,b,h,e=>h
 | (s,n) :: r,a,b,h,e=>by
  have:=h.2.2.2.le
  exact ⟨h.1,h.2.1,h.2.2.1.congr fun k h1 h2=>e k h1 (by (first|lia|omega)),h.2.2.2.congr fun k h1 h2=>e k (by (first|lia|omega)) h2⟩
def whr (p:Nat × Nat × Nat):Nat × Nat:=(p.1,p.2.1)
end
section
variable {prog:Program} {w:World} {A:Around} {E:Value->Shared->Prop} {s:Shared} {κ:SortKind} {lt:Keyed->Keyed->Bool} {a0:Array Keyed}
theorem wpS_set {σ:Type} {M:Model} {st st':σ} {Q:PUnit->σ->Prop} (h:Q ⟨⟩ st'):wpS M A E s (set st':StateT σ Sem PUnit) Q st:=by
 unfold wpS
 rw [StateT.run_set]
 exact wpAny_pure ⟨rfl,h⟩
theorem wpS_mergeAtG {st:SortSt} {Q:Bool->SortSt->Prop} {l1 l2:List (Nat × Nat × Nat)} {sa na p1 sb nb p2:Nat} (sw:Swo lt) (an:Ans prog w A s κ lt a0) (hk:kindOf st=κ) (hp:(arrOf st).Perm a0) (hfa:failedOf st=none)
  (hl:(pendingOf st).toList=l1 ++ (sa,na,p1) :: (sb,nb,p2) :: l2) (eb:sb=sa + na) (ha:1<=na) (hb:1<=nb) (hz:sb + nb<=a0.size) (ssa:SS lt (arrOf st) sa (sa + na)) (ssb:SS lt (arrOf st) sb (sb + nb))
  (h:∀ ys pe g,ys.Perm a0->(∀ k,(k < sa\/sb + nb<=k)->itA ys k=itA (arrOf st) k)->SS lt ys sa (sa + (na + nb))->pe.toList=l1 ++ (sa,na + nb,p1) :: l2->Q true (SortSt.mk' (kindOf st) ys pe g none)) :
  wpS (model prog w) A E s (mergeAt' l1.length) Q st:=by
 have hzx:=hp.size_eq
 have mem:∀ i,i < a0.size->itA (arrOf st) i ∈ a0:=fun i hi=>(Array.Perm.mem_iff hp).mp (itA_mem (by (first|lia|omega)))
 have g1:(pendingOf st)[l1.length]? = some (sa,na,p1):=by
  rw [<-Array.getElem?_toList,hl]
  simp
 have g2:(pendingOf st)[l1.length + 1]? = some (sb,nb,p2):=by
  rw [<-Array.getElem?_toList,hl]
  simp
 have pe:(((pendingOf st).setIfInBounds l1.length (sa,na + nb,p1)).eraseIdxIfInBounds (l1.length + 1)).toList=l1 ++ (sa,na + nb,p1) :: l2:=by
  rw [Array.toList_eraseIdxIfInBounds,Array.toList_setIfInBounds,hl]
  simp [List.eraseIdx_append]
  intro z
  (first|lia|omega)
 refine wpS_bind (wpS_get ?_)
 have e2:((pendingOf st)[l1.length]?,(pendingOf st)[l1.length + 1]?)=(some (sa,na,p1),some (sb,nb,p2)):=by rw [g1,g2]
 dsimp only
 rw [show ((sortPriv% PySem.Builtin.SortState.pending) st)[l1.length]? = some (sa,na,p1) from g1,show ((sortPriv% PySem.Builtin.SortState.pending) st)[l1.length + 1]? = some (sb,nb,p2) from g2]
 dsimp only
 refine wpS_bind (wpS_set ?_)
 refine wpS_bind (wpS_elemG (by show sb < (arrOf st).size; (first|lia|omega)) ?_)
 refine wpS_bind (wpS_gallopG (left:=false) an hk (mem _ (by (first|lia|omega))) (fun i hi=>mem _ (by (first|lia|omega))) (by show _<=(arrOf st).size; (first|lia|omega)) (by (first|lia|omega)) (byd_mono sw fun i j b1 b2 b3=>ssa i j b1 b2 b3) fun k k1 k2 k3=>?_)
 dsimp only
 have A1:∀ i,sa<=i->i < sa + k->Nl lt (itA (arrOf st) i) (itA (arrOf st) sb):=fun i b1 b2=>by
  have q:=byd_ft (k2 (i - sa) (by (first|lia|omega)))
  rw [show sa + (i - sa)=i by (first|lia|omega)] at q
  exact q
 by_cases q1:na - k=0
 ·rw [if_pos (by simpa using q1)]
  refine wpS_pure ?_
  have e:=hfa
  have fin:=h (arrOf st) _ (gallopOf st) hp (fun _ _=>rfl) (fun i j b1 b2 b3=>?_) pe
  ·rw [<-hfa] at fin
   exact fin
  ·by_cases c1:j < sa + na
   ·exact ssa i j b1 b2 c1
   ·by_cases c2:i < sa + na
    ·exact sw.trans (A1 i b1 (by (first|lia|omega))) (ssb sb j (Nat.le_refl _) (by (first|lia|omega)) (by (first|lia|omega)))
    ·exact ssb i j (by (first|lia|omega)) b2 (by (first|lia|omega))
 rw [if_neg (by simpa using q1)]
 refine wpS_bind (wpS_elemG (by show _ < (arrOf st).size; (first|lia|omega)) ?_)
 have el:sa + k + (na - k) - 1=sa + na - 1:=by (first|lia|omega)
 rw [el]
 refine wpS_bind (wpS_gallopG (left:=true) an hk (mem _ (by (first|lia|omega))) (fun i hi=>mem _ (by (first|lia|omega))) (by show _<=(arrOf st).size; (first|lia|omega)) (by (first|lia|omega)) (byd_mono sw fun i j b1 b2 b3=>ssb i j b1 b2 b3) fun m m1 m2 m3=>?_)
 dsimp only
 have A2:∀ i,sa + k<=i->i < sa + na->lt (itA (arrOf st) sb) (itA (arrOf st) i)=true:=fun i b1 b2=>by
  have q:=byd_ff (k3 (i - sa) (by (first|lia|omega)) (by (first|lia|omega)))
  rw [show sa + (i - sa)=i by (first|lia|omega)] at q
  exact q
 have B1:∀ i,sb<=i->i < sb + m->lt (itA (arrOf st) i) (itA (arrOf st) (sa + na - 1))=true:=fun i b1 b2=>by
  have q:=byd_tt (m2 (i - sb) (by (first|lia|omega)))
  rw [show sb + (i - sb)=i by (first|lia|omega)] at q
  exact q
 have B2:∀ i,sb + m<=i->i < sb + nb->Nl lt (itA (arrOf st) (sa + na - 1)) (itA (arrOf st) i):=fun i b1 b2=>by
  have q:=byd_tf (m3 (i - sb) (by (first|lia|omega)) (by (first|lia|omega)))
  rw [show sb + (i - sb)=i by (first|lia|omega)] at q
  exact q
 by_cases q2:m=0
 ·rw [if_pos (by simpa using q2)]
  refine wpS_pure ?_
  have fin:=h (arrOf st) _ (gallopOf st) hp (fun _ _=>rfl) (fun i j b1 b2 b3=>?_) pe
  ·rw [<-hfa] at fin
   exact fin
  ·by_cases c1:j < sa + na
   ·exact ssa i j b1 b2 c1
   ·by_cases c2:i < sa + na
    ·exact sw.trans (ssa i (sa + na - 1) b1 (by (first|lia|omega)) (by (first|lia|omega))) (B2 j (by (first|lia|omega)) (by (first|lia|omega)))
    ·exact ssb i j (by (first|lia|omega)) b2 (by (first|lia|omega))
 rw [if_neg (by simpa using q2)]
 have zx:((arrOf st).extract (sa + k) sb).size=na - k:=by rw [Array.size_extract]; (first|lia|omega)
 have zy:((arrOf st).extract sb (sb + m)).size=m:=by rw [Array.size_extract]; (first|lia|omega)
 have ix:∀ i,i < na - k->itA ((arrOf st).extract (sa + k) sb) i=itA (arrOf st) (sa + k + i):=fun i hi=>itA_extract (by (first|lia|omega)) (by (first|lia|omega))
 have iy:∀ i,i < m->itA ((arrOf st).extract sb (sb + m)) i=itA (arrOf st) (sb + i):=fun i hi=>itA_extract (by (first|lia|omega)) (by (first|lia|omega))
 have fin:∀ (r:Array Keyed) (g:Nat),Mrg lt (((arrOf st).extract (sa + k) sb).toList ++ ((arrOf st).extract sb (sb + m)).toList) r ->
   Q true (SortSt.mk' (kindOf st) (List.foldl (fun a x=>a.setIfInBounds (sa + k + x.snd) x.fst) (arrOf st) r.toList.zipIdx) (((pendingOf st).setIfInBounds l1.length (sa,na + nb,p1)).eraseIdxIfInBounds (l1.length + 1)) g none):=by
  intro r g mr
  have rl:r.toList.length=na - k + m:=by
   rw [mr.2.length_eq,List.length_append,Array.length_toList,Array.length_toList,zx,zy]
  have pb:=put_back (sa + k) r.toList 0 (arrOf st) (by (first|lia|omega))
  rw [Nat.add_zero] at pb
  have l1':((arrOf st).toList.take (sa + k)).length=sa + k:=by rw [List.length_take,Array.length_toList]; (first|lia|omega)
  obtain ⟨zs,ez⟩:∃ zs,zs=List.foldl (fun a x=>a.setIfInBounds (sa + k + x.snd) x.fst) (arrOf st) r.toList.zipIdx:=⟨_,rfl⟩
  rw [<-ez] at pb ⊢
  have zlow:∀ i,i < sa + k->itA zs i=itA (arrOf st) i:=fun i hi=>by
   rw [itA_list,itA_list,pb,List.append_assoc,getD_app1 (by (first|lia|omega)),List.getD_eq_getElem?_getD,List.getElem?_take_of_lt hi,List.getD_eq_getElem?_getD]
  have zhigh:∀ i,sb + m<=i->itA zs i=itA (arrOf st) i:=fun i hi=>by
   rw [itA_list,itA_list,pb,getD_app2 (by rw [List.length_append]; (first|lia|omega)),List.getD_eq_getElem?_getD,List.getElem?_drop,List.getD_eq_getElem?_getD]
   congr 2
   rw [List.length_append]
   (first|lia|omega)
  have zmid:∀ i,sa + k<=i->i < sb + m->itA zs i=itA r (i - (sa + k)):=fun i h1 h2=>by
   rw [itA_list,itA_list,pb,getD_app1 (by rw [List.length_append]; (first|lia|omega)),getD_app2 (by (first|lia|omega)),l1']
  have rsz:r.size=na - k + m:=by rw [<-rl,Array.length_toList]
  have rmem:∀ i,i < r.size->(∃ j,sa + k<=j/\j < sa + na/\itA r i=itA (arrOf st) j)\/(∃ j,sb<=j/\j < sb + m/\itA r i=itA (arrOf st) j):=fun i hi=>by
   have q:itA r i ∈ r.toList:=by simpa using itA_mem hi
   rcases List.mem_append.mp (mr.2.mem_iff.mp q) with q | q
   ·obtain ⟨j,j1,j2,j3,e⟩:=mem_part q
    exact .inl ⟨j,j1,by (first|lia|omega),e⟩
   ·obtain ⟨j,j1,j2,j3,e⟩:=mem_part q
    exact .inr ⟨j,j1,j2,e⟩
  refine h zs _ g ?_ ?_ ?_ pe
  ·refine Array.Perm.trans (Array.perm_iff_toList_perm.mpr ?_) hp
   rw [pb]
   have e1:=take_part (xs:=arrOf st) (i:=sa + k) (j:=sb) (by (first|lia|omega))
   have e2:=take_part (xs:=arrOf st) (i:=sb) (j:=sb + m) (by (first|lia|omega))
   have e3:=List.take_append_drop (sb + m) (arrOf st).toList
   rw [e2,e1] at e3
   rw [rl,show sa + k + (na - k + m)=sb + m by (first|lia|omega)]
   conv=>rhs; rw [<-e3]
   rw [List.append_assoc ((arrOf st).toList.take (sa + k)) ((arrOf st).extract (sa + k) sb).toList]
   exact List.Perm.append_right _ (List.Perm.append_left _ mr.2)
  ·intro i hi
   rcases hi with hi | hi
   ·exact zlow i (by (first|lia|omega))
   ·exact zhigh i (by (first|lia|omega))
  ·intro i j b1 b2 b3
   by_cases ci1:i < sa + k
   ·rw [zlow i ci1]
    by_cases cj1:j < sa + k
    ·rw [zlow j cj1]
     exact ssa i j b1 b2 (by (first|lia|omega))
    ·by_cases cj2:j < sb + m
     ·rw [zmid j (by (first|lia|omega)) cj2]
      rcases rmem (j - (sa + k)) (by (first|lia|omega)) with ⟨t,t1,t2,e⟩ | ⟨t,t1,t2,e⟩
      ·rw [e]; exact ssa i t b1 (by (first|lia|omega)) t2
      ·rw [e]; exact sw.trans (A1 i b1 ci1) (ssb sb t (Nat.le_refl _) t1 (by (first|lia|omega)))
     ·rw [zhigh j (by (first|lia|omega))]
      exact sw.trans (A1 i b1 ci1) (ssb sb j (Nat.le_refl _) (by (first|lia|omega)) (by (first|lia|omega)))
   ·by_cases ci2:i < sb + m
    ·rw [zmid i (by (first|lia|omega)) ci2]
     by_cases cj2:j < sb + m
     ·rw [zmid j (by (first|lia|omega)) cj2]
      exact pw_at sw mr.1 (by (first|lia|omega)) (by (first|lia|omega))
     ·rw [zhigh j (by (first|lia|omega))]
      rcases rmem (i - (sa + k)) (by (first|lia|omega)) with ⟨t,t1,t2,e⟩ | ⟨t,t1,t2,e⟩
      ·rw [e]; exact sw.trans (ssa t (sa + na - 1) (by (first|lia|omega)) (by (first|lia|omega)) (by (first|lia|omega))) (B2 j (by (first|lia|omega)) (by (first|lia|omega)))
      ·rw [e]; exact ssb t j t1 (by (first|lia|omega)) (by (first|lia|omega))
    ·rw [zhigh i (by (first|lia|omega)),zhigh j (by (first|lia|omega))]
     exact ssb i j (by (first|lia|omega)) b2 (by (first|lia|omega))
 have mx:∀ i,i < ((arrOf st).extract (sa + k) sb).size->itA ((arrOf st).extract (sa + k) sb) i ∈ a0:=fun i hi=>by rw [ix i (by (first|lia|omega))]; exact mem _ (by (first|lia|omega))
 have my:∀ i,i < ((arrOf st).extract sb (sb + m)).size->itA ((arrOf st).extract sb (sb + m)) i ∈ a0:=fun i hi=>by rw [iy i (by (first|lia|omega))]; exact mem _ (by (first|lia|omega))
 have sx:((arrOf st).extract (sa + k) sb).toList.Pairwise (Nl lt):=at_pw fun i j hij hj=>by
  rw [ix i (by (first|lia|omega)),ix j (by (first|lia|omega))]
  exact ssa _ _ (by (first|lia|omega)) (by (first|lia|omega)) (by (first|lia|omega))
 have sy:((arrOf st).extract sb (sb + m)).toList.Pairwise (Nl lt):=at_pw fun i j hij hj=>by
  rw [iy i (by (first|lia|omega)),iy j (by (first|lia|omega))]
  exact ssb _ _ (by (first|lia|omega)) (by (first|lia|omega)) (by (first|lia|omega))
 have hfst:Nl lt (itA ((arrOf st).extract sb (sb + m)) 0) (itA ((arrOf st).extract (sa + k) sb) 0):=by
  rw [ix 0 (by (first|lia|omega)),iy 0 (by (first|lia|omega))]
  exact sw.of_lt (A2 _ (by (first|lia|omega)) (by (first|lia|omega)))
 have hlst:∀ j,j < ((arrOf st).extract sb (sb + m)).size->Nl lt (itA ((arrOf st).extract sb (sb + m)) j) (itA ((arrOf st).extract (sa + k) sb) (((arrOf st).extract (sa + k) sb).size - 1)):=fun j hj=>by
  rw [iy j (by (first|lia|omega)),ix _ (by (first|lia|omega)),zx,show sa + k + (na - k - 1)=sa + na - 1 by (first|lia|omega)]
  exact sw.of_lt (B1 _ (by (first|lia|omega)) (by (first|lia|omega)))
 by_cases q3:na - k<=m
 ·rw [if_pos q3]
  refine wpS_bind (wpS_mergeLoG sw an hk mx my sx sy (show 0 < ((arrOf st).extract (sa + k) sb).size by rw [zx]; (first|lia|omega)) (show 0 < ((arrOf st).extract sb (sb + m)).size by rw [zy]; (first|lia|omega)) hfst hlst fun r g mr=>?_)
  refine wpS_bind (wpS_modify (wpS_bind (wpS_get (wpS_pure ?_))))
  have f:=fin r g mr
  rw [<-hfa] at f
  have e:(failedOf st).isNone=true:=by rw [hfa]; rfl
  show Q (failedOf st).isNone _
  rw [e]
  exact f
 ·rw [if_neg q3]
  refine wpS_bind (wpS_mergeHiG sw an hk mx my sx sy (show 0 < ((arrOf st).extract (sa + k) sb).size by rw [zx]; (first|lia|omega)) (show 0 < ((arrOf st).extract sb (sb + m)).size by rw [zy]; (first|lia|omega)) hfst hlst fun r g mr=>?_)
  refine wpS_bind (wpS_modify (wpS_bind (wpS_get (wpS_pure ?_))))
  have f:=fin r g mr
  rw [<-hfa] at f
  have e:(failedOf st).isNone=true:=by rw [hfa]; rfl
  show Q (failedOf st).isNone _
  rw [e]
  exact f
end
end L2
namespace L2
open PySem PySem.W PyProof.Rows
section
variable {prog:Program} {w:World} {A:Around} {E:Value->Shared->Prop} {s:Shared} {κ:SortKind} {lt:Keyed->Keyed->Bool} {a0:Array Keyed}
structure Srt (κ:SortKind) (lt:Keyed->Keyed->Bool) (a0:Array Keyed) (lo:Nat) (st:SortSt):Prop where
 kd:kindOf st=κ
 pm:(arrOf st).Perm a0
 fa:failedOf st=none
 cv:Cov lt (arrOf st) 0 ((pendingOf st).toList.map whr) lo
theorem Srt.merge {st:SortSt} {lo i:Nat} {Q:Bool->SortSt->Prop} (sw:Swo lt) (an:Ans prog w A s κ lt a0) (h:Srt κ lt a0 lo st) (hi:i + 1 < (pendingOf st).size) (hlo:lo<=a0.size)
  (q:∀ st',Srt κ lt a0 lo st'->(pendingOf st').size + 1=(pendingOf st).size->(∀ k,lo<=k->itA (arrOf st') k=itA (arrOf st) k)->Q true st'):wpS (model prog w) A E s (mergeAt' i) Q st:=by
 have hl:i < (pendingOf st).toList.length:=by rw [Array.length_toList]; (first|lia|omega)
 have hl2:i + 1 < (pendingOf st).toList.length:=by rw [Array.length_toList]; (first|lia|omega)
 obtain ⟨⟨sa,na,p1⟩,ex⟩:∃ x,(pendingOf st).toList[i]=x:=⟨_,rfl⟩
 obtain ⟨⟨sb,nb,p2⟩,ey⟩:∃ y,(pendingOf st).toList[i + 1]=y:=⟨_,rfl⟩
 have e:(pendingOf st).toList=(pendingOf st).toList.take i ++ (sa,na,p1) :: (sb,nb,p2) :: (pendingOf st).toList.drop (i + 2):=by
  conv=>lhs; rw [<-List.take_append_drop i (pendingOf st).toList]
  rw [List.drop_eq_getElem_cons hl,List.drop_eq_getElem_cons hl2,ex,ey]
 have tl:((pendingOf st).toList.take i).length=i:=by rw [List.length_take]; (first|lia|omega)
 obtain ⟨l1,el1⟩:∃ l,l=(pendingOf st).toList.take i:=⟨_,rfl⟩
 obtain ⟨l2,el2⟩:∃ l,l=(pendingOf st).toList.drop (i + 2):=⟨_,rfl⟩
 rw [<-el1,<-el2] at e
 rw [<-el1] at tl
 have cv:=h.cv
 rw [e,List.map_append,Cov.app] at cv
 obtain ⟨m,c1,c2,c3,c4,c5,c6,c7,c8⟩:=cv
 dsimp only [whr] at c2 c3 c4 c5 c6 c7 c8
 subst c2
 have ele:=c8.le
 subst tl
 refine wpS_mergeAtG sw an h.kd h.pm h.fa e c5 c3 c6 (by (first|lia|omega)) c4 (by rw [c5]; exact c7) fun ys pe g y1 y2 y3 y4=>q _ ⟨h.kd,y1,rfl,?_⟩ ?_ ?_
 ·show Cov lt ys 0 (pe.toList.map whr) lo
  rw [y4,List.map_append,Cov.app]
  refine ⟨sa,c1.congr fun k _ hk=>y2 k (.inl hk),rfl,?_,y3,?_⟩
  ·show 1<=na + nb
   (first|lia|omega)
  ·show Cov lt ys (sa + (na + nb)) _ lo
   rw [<-Nat.add_assoc]
   exact c8.congr fun k hk _=>y2 k (.inr (by (first|lia|omega)))
 ·show pe.size + 1=_
  have z1:pe.toList.length=l1.length + (l2.length + 1):=by rw [y4]; simp
  have z2:(pendingOf st).toList.length=l1.length + (l2.length + 1 + 1):=by rw [e]; simp
  rw [Array.length_toList] at z1 z2
  (first|lia|omega)
 ·intro k hk
  exact y2 k (.inr (by (first|lia|omega)))
theorem map_whr_modify (p:Array (Nat × Nat × Nat)) (i:Nat) (f:Nat × Nat × Nat->Nat × Nat × Nat) (hf:∀ x,whr (f x)=whr x):(p.modify i f).toList.map whr=p.toList.map whr:=by
 apply List.ext_getElem?
 intro k
 rw [List.getElem?_map,List.getElem?_map,Array.getElem?_toList,Array.getElem?_toList,Array.getElem?_modify]
 split
 ·cases p[k]? with
  | none=>rfl
  | some x=>show some (whr (f x))=some (whr x); rw [hf]
 ·rfl
theorem fewer2 (c:Bool) (n:Nat) (h:1 < n):(if c=true then n - 2 - 1 else n - 2) + 1 < n:=by
 split <;> (first|lia|omega)
theorem wpS_sortRunsG {st:SortSt} {Q:Unit->SortSt->Prop} (sw:Swo lt) (an:Ans prog w A s κ lt a0) (hk:kindOf st=κ) (ha:arrOf st=a0) (hf:failedOf st=none) (hpe:pendingOf st=#[]) (h2:1<=a0.size)
  (h:∀ st',(arrOf st').Perm a0->failedOf st'=none->(arrOf st').toList.Pairwise (Nl lt)->Q () st'):wpS (model prog w) A E s sortRuns' Q st:=by
 have hp:(arrOf st).Perm a0:=by rw [ha]
 refine wpS_bind (wpS_get ?_)
 dsimp only
 have ez:((sortPriv% PySem.Builtin.SortState.a) st).size=a0.size:=by rw [show (sortPriv% PySem.Builtin.SortState.a) st=a0 from ha]
 rw [ez]
 refine wpS_bind (wpS_mono (wpS_forRange (I:=fun x c st'=>∃ lo,c=(none,lo)/\x<=lo/\lo<=a0.size/\Srt κ lt a0 lo st')
  (Q:=fun c st'=>c=(none,a0.size)/\Srt κ lt a0 a0.size st') ?step ?fin ?init) ?post)
 case init=>
  refine ⟨0,rfl,Nat.le_refl _,Nat.zero_le _,hk,hp,hf,?_⟩
  rw [hpe]
  exact rfl
 case fin=>
  rintro c st' ⟨lo,rfl,q1,q2,q3⟩
  have:lo=a0.size:=by (first|lia|omega)
  rw [this] at q3 ⊢
  exact ⟨rfl,q3⟩
 case step=>
  rintro x c st' _ hx ⟨lo,rfl,q1,q2,q3⟩
  dsimp only
  by_cases hlo:lo >= a0.size
  ·rw [if_pos hlo]
   have:lo=a0.size:=by (first|lia|omega)
   rw [this] at q3 ⊢
   exact wpS_pure ⟨rfl,q3⟩
  rw [if_neg hlo]
  have hz:=q3.pm.size_eq
  refine wpS_bind (wpS_countRunG sw an q3.kd q3.pm (by (first|lia|omega)) (by (first|lia|omega)) fun m ys k1 m1 m2 s1=>?_)
  dsimp only
  by_cases hm:m < (sortPriv% PySem.Builtin.minRun) a0.size a0.size 0
  case' pos=>
   rw [if_pos hm]
   refine wpS_bind (wpS_lift (wpAny_rule ⟨rfl,?_⟩))
   refine wpS_bind (wpS_binarySortG (st:=setArr st' ys) sw an q3.kd (k1.1.trans q3.pm) (by (first|lia|omega)) m1 (by (first|lia|omega)) s1 fun zs k2 s2=>?_)
   simp only [Bool.not_true,Bool.false_eq_true,if_false]
   refine wpS_bind (wpS_get ?_)
   obtain ⟨n,en⟩:∃ n,n=min (a0.size - lo) ((sortPriv% PySem.Builtin.minRun) a0.size a0.size 0):=⟨_,rfl⟩
   have n1:1<=n:=by (first|lia|omega)
   have n2:lo + n<=a0.size:=by (first|lia|omega)
   rw [<-en] at s2 ⊢
   have kz:Kp (arrOf st') zs lo:=⟨k2.1.trans k1.1,fun k hk=>(k2.2 k hk).trans (k1.2 k hk)⟩
  case' neg=>
   rw [if_neg hm]
   refine wpS_bind (wpS_get ?_)
   obtain ⟨zs,ezs⟩:∃ zs,zs=ys:=⟨_,rfl⟩
   obtain ⟨n,en⟩:∃ n,n=m:=⟨_,rfl⟩
   have n1:1<=n:=by (first|lia|omega)
   have n2:lo + n<=a0.size:=by (first|lia|omega)
   have s2:SS lt zs lo (lo + n):=by rw [ezs,en]; exact s1
   have kz:Kp (arrOf st') zs lo:=by rw [ezs]; exact k1
   rw [<-ezs,<-en]
  all_goals
   have S2:Srt κ lt a0 lo (setArr st' zs):=⟨q3.kd,kz.1.trans q3.pm,q3.fa,q3.cv.congr fun k _ hk=>kz.2 k hk⟩
   have push:∀ st4,Srt κ lt a0 lo st4->SS lt (arrOf st4) lo (lo + n)->Srt κ lt a0 (lo + n) (setPending st4 ((pendingOf st4).push (lo,n,0))):=by
    intro st4 S4 ss4
    refine ⟨S4.kd,S4.pm,S4.fa,?_⟩
    show Cov lt (arrOf st4) 0 (((pendingOf st4).push (lo,n,0)).toList.map whr) (lo + n)
    rw [Array.toList_push,List.map_append,Cov.app]
    exact ⟨lo,S4.cv,rfl,n1,ss4,rfl⟩
   cases eb:(pendingOf (setArr st' zs)).back? with
   | none=>
    dsimp only
    exact wpS_bind (wpS_modify (wpS_pure ⟨lo + n,rfl,by (first|lia|omega),n2,push _ S2 s2⟩))
   | some bk=>
    obtain ⟨b1,b2,b3⟩:=bk
    dsimp only
    obtain ⟨pw,epw⟩:∃ pw,pw=(sortPriv% PySem.Builtin.power) a0.size (2 * b1 + b2) (2 * b1 + b2 + b2 + n) a0.size:=⟨_,rfl⟩
    rw [<-epw]
    refine wpS_bind (wpS_mono (wpS_forRange (I:=fun _ c st''=>c=(none,())/\Srt κ lt a0 lo st''/\SS lt (arrOf st'') lo (lo + n))
     (Q:=fun c st''=>c=(none,())/\Srt κ lt a0 lo st''/\SS lt (arrOf st'') lo (lo + n)) ?_ (fun _ _ hh=>hh) ⟨rfl,S2,s2⟩) ?_)
    ·rintro y c st'' _ _ ⟨rfl,S3,s3⟩
     refine wpS_bind (wpS_get ?_)
     by_cases hps:(pendingOf st'').size > 1
     ·rw [if_pos hps]
      obtain ⟨⟨o1,o2,o3⟩,eo⟩:∃ o,(pendingOf st'')[(pendingOf st'').size - 2]? = some o:=⟨_,Array.getElem?_eq_getElem (by (first|lia|omega))⟩
      rw [show ((sortPriv% PySem.Builtin.SortState.pending) st'')[((sortPriv% PySem.Builtin.SortState.pending) st'').size - 2]? = some (o1,o2,o3) from eo]
      dsimp only
      by_cases ho:o3<=pw
      ·rw [if_pos ho]
       exact wpS_pure ⟨rfl,S3,s3⟩
      ·rw [if_neg ho]
       refine wpS_bind (S3.merge sw an (by show (pendingOf st'').size - 2 + 1 < _; (first|lia|omega)) (by (first|lia|omega)) fun st5 S5 _ e5=>?_)
       simp only [Bool.not_true,Bool.false_eq_true,if_false]
       exact wpS_pure ⟨rfl,S5,s3.congr fun k hk _=>e5 k hk⟩
     ·rw [if_neg hps]
      exact wpS_pure ⟨rfl,S3,s3⟩
    ·rintro c st'' ⟨rfl,S3,s3⟩
     dsimp only
     refine wpS_bind (wpS_modify (wpS_bind (wpS_modify (wpS_pure ⟨lo + n,rfl,by (first|lia|omega),n2,?_⟩))))
     refine push (setPending st'' ((pendingOf st'').modify ((pendingOf st'').size - 1) fun x=>(x.fst,x.2.fst,pw))) ⟨S3.kd,S3.pm,S3.fa,?_⟩ s3
     show Cov lt (arrOf st'') 0 (((pendingOf st'').modify ((pendingOf st'').size - 1) fun x=>(x.fst,x.2.fst,pw)).toList.map whr) lo
     rw [map_whr_modify (pendingOf st'') ((pendingOf st'').size - 1) (fun x=>(x.fst,x.2.fst,pw)) fun x=>rfl]
     exact S3.cv
 case post=>
  rintro c st' ⟨rfl,S1⟩
  dsimp only
  have z1:(pendingOf st').size<=a0.size:=by
   have:=S1.cv.le
   rw [List.length_map,Array.length_toList] at this
   (first|lia|omega)
  refine wpS_bind (wpS_mono (wpS_forRange (I:=fun x c st''=>c=(none,())/\Srt κ lt a0 a0.size st''/\(pendingOf st'').size + x<=a0.size + 1)
   (Q:=fun c st''=>c=(none,())/\Srt κ lt a0 a0.size st''/\(pendingOf st'').size<=1) ?_ ?_ ⟨rfl,S1,by (first|lia|omega)⟩) ?_)
  ·rintro x c st'' _ hx ⟨rfl,S2,z2⟩
   refine wpS_bind (wpS_get ?_)
   by_cases hps:(pendingOf st'').size<=1
   ·rw [if_pos hps]
    exact wpS_pure ⟨rfl,S2,hps⟩
   ·rw [if_neg hps]
    refine wpS_bind (S2.merge sw an ?_ (Nat.le_refl _) fun st5 S5 z5 _=>?_)
    ·exact fewer2 _ _ (by show 1 < (pendingOf st'').size; (first|lia|omega))
    ·simp only [Bool.not_true,Bool.false_eq_true,if_false]
     exact wpS_pure ⟨rfl,S5,by (first|lia|omega)⟩
  ·rintro c st'' ⟨rfl,S2,z2⟩
   refine ⟨rfl,S2,?_⟩
   (first|lia|omega)
  ·rintro c st'' ⟨rfl,S2,z2⟩
   refine wpS_pure (h st'' S2.pm S2.fa ?_)
   have cv:=S2.cv
   have hz:=S2.pm.size_eq
   have hzl:((pendingOf st'').toList.map whr).length<=1:=by rw [List.length_map,Array.length_toList]; exact z2
   generalize (pendingOf st'').toList.map whr=l at cv hzl
   match l,cv,hzl with
   | [],cv,_=>exact absurd (show 0=a0.size from cv) (by (first|lia|omega))
   | [(p,n)],cv,_=>
    obtain ⟨_,_,c3,c4⟩:=cv
    have c4':0 + n=a0.size:=c4
    exact at_pw fun i j hij hj=>c3 i j (Nat.zero_le _) (by (first|lia|omega)) (by (first|lia|omega))
   | _ :: _ :: _,_,hzl=>simp at hzl
end
end L2
namespace L2
open PySem PySem.Spec PyProof.Rows
abbrev Key:=Sum Int Str
def keyIs:Key->Value->Bool
 | .inl k,v=>Value.isInt k v
 | .inr x,v=>Value.isStrOf x v
def keyH (w:World):Key->Int
 | .inl k=>hashInt k
 | .inr x=>hashStr w x
theorem keyIs_shape:∀ {k:Key} {v:Value},keyIs k v=true->(∃ i t,k=Sum.inl i/\v=Value.int i t)\/(∃ x t,k=Sum.inr x/\v=Value.str x t)
 | .inl i,v,h=>by
  obtain ⟨t,e⟩:=Value.isInt_shape (k:=i) (v:=v) h
  exact .inl ⟨i,t,rfl,e⟩
 | .inr x,v,h=>by
  obtain ⟨t,e⟩:=Value.isStrOf_shape (x:=x) (v:=v) h
  exact .inr ⟨x,t,rfl,e⟩
theorem keyIs_int (i:Int) (t:Tok):keyIs (.inl i) (.int i t)=true:=by simp [keyIs,Value.isInt]
theorem keyIs_str (x:Str) (t:Tok):keyIs (.inr x) (.str x t)=true:=by simp [keyIs,Value.isStrOf]
theorem key_ll (a b:Int):decide ((Sum.inl a:Key)=Sum.inl b)=(a == b):=by
 by_cases e:a=b
 ·subst e; simp
 ·have h:¬ (Sum.inl a:Key)=Sum.inl b:=fun q=>e (Sum.inl.inj q)
  rw [decide_eq_false h]
  exact (beq_eq_false_iff_ne.mpr e).symm
theorem key_rr (a b:Str):decide ((Sum.inr a:Key)=Sum.inr b)=decide (a=b):=by
 by_cases e:a=b
 ·subst e; simp
 ·have h:¬ (Sum.inr a:Key)=Sum.inr b:=fun q=>e (Sum.inr.inj q)
  rw [decide_eq_false h,decide_eq_false e]
theorem key_lr (a:Int) (b:Str):decide ((Sum.inl a:Key)=Sum.inr b)=false:=decide_eq_false (fun q=>nomatch q)
theorem key_rl (a:Str) (b:Int):decide ((Sum.inr a:Key)=Sum.inl b)=false:=decide_eq_false (fun q=>nomatch q)
def mixKind (prog:Program) (w:World):PySem.KeyKind prog w Key where
 is:=keyIs
 hash:=keyH w
 inj:=fun v a b ha hb=>by
  rcases keyIs_shape ha with ⟨i,t,rfl,rfl⟩ | ⟨x,t,rfl,rfl⟩
  ·rcases keyIs_shape hb with ⟨j,u,rfl,e⟩ | ⟨y,u,rfl,e⟩
   ·injection e with e1 _; rw [e1]
   ·exact nomatch e
  ·rcases keyIs_shape hb with ⟨j,u,rfl,e⟩ | ⟨y,u,rfl,e⟩
   ·exact nomatch e
   ·injection e with e1 _; rw [e1]
 byValue:=fun k v h=>by
  rcases keyIs_shape h with ⟨i,t,rfl,rfl⟩ | ⟨x,t,rfl,rfl⟩ <;> rfl
 pyHash:=fun hv h=>by
  rcases keyIs_shape hv with ⟨i,t,rfl,rfl⟩ | ⟨x,t,rfl,rfl⟩
  ·exact wpAny_pyHash_int h
  ·exact wpAny_pyHash_str h
 eqBool:=fun hu hv h=>by
  rcases keyIs_shape hu with ⟨i,t,rfl,rfl⟩ | ⟨x,t,rfl,rfl⟩
  ·rcases keyIs_shape hv with ⟨j,u,rfl,rfl⟩ | ⟨y,u,rfl,rfl⟩
   ·rw [key_ll] at h; exact wpAny_eqBool_int h
   ·rw [key_lr] at h; exact SeqAt.EqAt.int_str i t y u _ _ _ _ h
  ·rcases keyIs_shape hv with ⟨j,u,rfl,rfl⟩ | ⟨y,u,rfl,rfl⟩
   ·rw [key_rl] at h; exact SeqAt.EqAt.str_int x t j u _ _ _ _ h
   ·rw [key_rr] at h; exact wpAny_eqBool_str h
 «strs»:=fun k x t v h=>by
  rcases keyIs_shape h with ⟨i,u,rfl,e⟩ | ⟨y,u,rfl,e⟩
  ·exact nomatch e
  ·injection e with e1 _
   subst e1
   cases v <;> rfl
theorem mixKind_int (prog:Program) (w:World) (i:Int) (t:Tok):(mixKind prog w).is (.inl i) (.int i t)=true:=keyIs_int i t
theorem mixKind_str (prog:Program) (w:World) (x:Str) (t:Tok):(mixKind prog w).is (.inr x) (.str x t)=true:=keyIs_str x t
end L2
namespace L2
open PySem PySem.Spec PyProof.Rows
inductive V where
 | non | bl (b:Bool) | int (i:Int) | str (x:Str) | byt (b:Array UInt8) | flt (b:UInt64) | ref (a:Addr) | ty (n:String)
 deriving DecidableEq
def RelV:V->Value->Prop
 | .non,u=>u=Value.none
 | .bl b,u=>u=Value.bool b
 | .int i,u=>∃ t,u=Value.int i t
 | .str x,u=>∃ t,u=Value.str x t
 | .byt b,u=>∃ t,u=Value.bytes b t
 | .flt b,u=>∃ t,u=Value.float b t
 | .ref a,u=>u=Value.ref a
 | .ty n,u=>u=Value.type n
abbrev Vals:List V->List Value->Prop:=Paired RelV
theorem Vals.length {xs:List V} {us:List Value} (r:Vals xs us):xs.length=us.length:=Paired.length r
theorem Vals.get:∀ {xs:List V} {us:List Value} {i:Nat} {x:V},Vals xs us->xs[i]? = some x->∃ u,us[i]? = some u/\RelV x u
 | _,_,_,_,.nil,e=>by simp at e
 | _,_,0,_,.cons r _,e=>by simp at e; subst e; exact ⟨_,rfl,r⟩
 | _,_,i + 1,x,.cons _ t,e=>by
  obtain ⟨u,h1,h2⟩:=Vals.get (i:=i) (x:=x) t (by simpa using e)
  exact ⟨u,by simpa using h1,h2⟩
theorem Vals.set {x:V} {u:Value} (r:RelV x u):∀ {xs:List V} {us:List Value} (i:Nat),Vals xs us->Vals (xs.set i x) (us.set i u)
 | _,_,_,.nil=>.nil
 | _,_,0,.cons _ t=>.cons r t
 | _,_,i + 1,.cons q t=>.cons q (Vals.set r i t)
theorem Vals.append:∀ {xs ys:List V} {us ws:List Value},Vals xs us->Vals ys ws->Vals (xs ++ ys) (us ++ ws)
 | _,_,_,_,.nil,s=>s
 | _,_,_,_,.cons r t,s=>.cons r (Vals.append t s)
theorem Vals.take:∀ {xs:List V} {us:List Value} (n:Nat),Vals xs us->Vals (xs.take n) (us.take n)
 | _,_,0,_=>.nil
 | _,_,_ + 1,.nil=>.nil
 | _,_,n + 1,.cons r t=>.cons r (Vals.take n t)
theorem Vals.drop:∀ {xs:List V} {us:List Value} (n:Nat),Vals xs us->Vals (xs.drop n) (us.drop n)
 | _,_,0,r=>r
 | _,_,_ + 1,.nil=>.nil
 | _,_,n + 1,.cons _ t=>Vals.drop n t
def RelO:Option V->Option Value->Prop
 | some v,some u=>RelV v u
 | none,none=>True
 | _,_=>False
def KV {κ:Type}:List (κ × V)->List (κ × Value)->Prop:=Paired fun (p:κ × V) (q:κ × Value)=>p.1=q.1/\RelV p.2 q.2
def kV:Key->V
 | .inl i=>.int i
 | .inr x=>.str x
inductive HO where
 /-- a list -/
 | lst (xs:List V)
 /-- a tuple (never changes) -/
 | tup (xs:List V)
 /-- a dict whose keys are ints and texts; one whose keys are tuples of ints and texts (the empty one is both) -/
 | dK (kvs:List (Key × V)) | dT (kvs:List (List Key × V))
 /-- a set of ints: its members,its size -/
 | set (S:Int->Bool) (n:Nat)
 /-- an instance of the class at C,its dict at dx,its attributes -/
 | ins (C dx:Addr) (fs:List (Str × V))
 /-- the dict of the instance at x -/
 | own (x:Addr)
 /-- the dict of an exception -/
 | xd (fs:List (Str × V))
 /-- a bound method,f of x -/
 | met (f x:Addr)
 /-- a range object lo,lo + 1,.. below hi -/
 | rng (lo hi:Int)
 /-- a thing that is known to the object (the script; a dict while a loop walks it): read,never written while it is so -/
 | frz (o:Obj) (u:HO)
 /-- a code object's table -/
 | tbl (ps:Array Value)
 /-- any other thing,by what is true of its one object (a def of one's own: SetO a S n:=HO.ext fun h=>..) -/
 | ext (φ:Heap->Prop)
abbrev Hp:=Addr->Option HO
def upd (H:Hp) (a:Addr) (o:HO):Hp:=fun b=>if b=a then some o else H b
theorem upd_same {H:Hp} {a:Addr} {o:HO}:upd H a o a=some o:=by unfold upd; rw [if_pos rfl]
theorem upd_ne {H:Hp} {a b:Addr} {o:HO} (h:b ≠ a):upd H a o b=H b:=by unfold upd; rw [if_neg h]
theorem upd_upd {H:Hp} {a:Addr} {o u:HO}:upd (upd H a o) a u=upd H a u:=by
 funext b; unfold upd; split <;> rfl
theorem ne_of {H:Hp} {a b:Addr} {o u:HO} (h:H a=some o) (h':H b=some u) (d:o ≠ u):a ≠ b:=by
 intro e; subst e; rw [h] at h'; exact d (Option.some.inj h')
theorem ne_of_none {H:Hp} {a b:Addr} {o:HO} (h:H a=some o) (h':H b=none):a ≠ b:=by
 intro e; subst e; rw [h] at h'; cases h'
def TupD (h:Heap) (a:Addr):Prop:=∀ o,h.get? a=some o->o.dict=none
theorem TupD.new {h:Heap} {o:Obj} (hd:o.dict=none) (hf:o.isFreed=false):TupD (h.push o) h.objs.size:=fun o' e=>by
 rw [Heap.get?_push_size _ hf] at e
 cases e
 exact hd
section
variable (P:Program) (w:World)
def ObjOk (H:Hp) (h:Heap) (a:Addr):HO->Prop
 | .lst xs=>xs.length<=sizeLine/\∃ (its:List Value) (n:Nat),Vals xs its/\h.get? a=some { cls:=.type "list",data:=.seq its.toArray n }
 | .tup xs=>xs.length<=sizeLine/\∃ its:List Value,Vals xs its/\IsTup h a its.toArray/\TupD h a
 | .dK kvs=>kvs.length<=sizeLine/\(a == sysModules)=false/\∃ vs,KV kvs vs/\h.DictOf (mixKind P w) a vs
 | .dT kvs=>kvs.length<=sizeLine/\(a == sysModules)=false/\∃ xs:List (List Key × Addr × Value),
   Paired (fun (p:List Key × V) (q:List Key × Addr × Value)=>p.1=q.1/\H q.2.1=some (.tup (p.1.map kV))/\RelV p.2 q.2.2) kvs xs /\
   ∃ o es ep,h.get? a=some o/\o.ExactDict/\o.data=.dict es ep/\es.toList=xs.map (entryOfKey (tupleKind (mixKind P w)))/\(xs.map (·.1)).Nodup
 | .set S n=>h.SetOf (intKind P w) a S n
 | .ins C dx fs=>H dx=some (.own a)/\fs.length<=1000/\dx ≠ a/\h.get? a=some (PySem.W.instObj C dx) /\
   ∃ mA,h.Ns1 dx mA/\(∀ f,RelO (fs.lookup f) (mA f))/\PySem.Within mA (fs.map (·.1))
 | .own _=>∃ o,h.get? a=some o
 | .xd fs=>∃ mA,h.Ns1 a mA/\∀ f,RelO (fs.lookup f) (mA f)
 | .rng lo hi=>∃ t u v,h.get? a=some { cls:=.type "range",data:=.fields #[.int lo t,.int hi u,.int 1 v] }
 | .frz o u=>h.get? a=some o/\ObjOk H h a u
 | .tbl ps=>h.get? a=some { cls:=.none,data:=.fields ps }
 | .met f x=>h.get? a=some (PySem.W.methodObj (.ref f) (.ref x))
 | .ext φ=>φ h/\(∃ o,h.get? a=some o)/\∀ h1 h2:Heap,φ h1->(∀ o,h1.get? a=some o->h2.get? a=some o)->φ h2
def HOk (H:Hp) (h:Heap):Prop:=∀ a o,H a=some o->ObjOk P w H h a o
end
section
variable {P:Program} {w:World} {H H':Hp} {h h':Heap} {a:Addr} {o:HO}
theorem ObjOk.lt (x:ObjOk P w H h a o):a < h.objs.size:=by
 cases o with
 | lst xs=>obtain ⟨_,_,_,_,e⟩:=x; exact Heap.lt_size e
 | tup xs=>obtain ⟨_,_,_,p,_⟩:=x; exact p.lt
 | dK kvs=>obtain ⟨_,_,_,_,o,_,_,e,_⟩:=x; exact Heap.lt_size e
 | dT kvs=>obtain ⟨_,_,_,_,o,_,_,e,_⟩:=x; exact Heap.lt_size e
 | set S n=>obtain ⟨o,_,_,_,e,_⟩:=x; exact Heap.lt_size e
 | ins C dx fs=>obtain ⟨_,_,_,e,_⟩:=x; exact Heap.lt_size e
 | own y=>obtain ⟨_,e⟩:=x; exact Heap.lt_size e
 | xd fs=>obtain ⟨_,⟨_,_,_,e,_⟩,_⟩:=x; exact Heap.lt_size e
 | rng lo hi=>obtain ⟨_,_,_,e⟩:=x; exact Heap.lt_size e
 | frz ob u=>obtain ⟨e,_⟩:=x; exact Heap.lt_size e
 | tbl ps=>exact Heap.lt_size (show h.get? a=some _ from x)
 | met f y=>exact Heap.lt_size (show h.get? a=some _ from x)
 | ext φ=>obtain ⟨_,⟨_,e⟩,_⟩:=x; exact Heap.lt_size e
theorem Paired.mapP {α β:Type} {F G:α->β->Prop}:∀ {l₁:List α} {l₂:List β},Paired F l₁ l₂->(∀ a b,F a b->G a b)->Paired G l₁ l₂
 | _,_,.nil,_=>.nil
 | _,_,.cons r t,f=>.cons (f _ _ r) (Paired.mapP t f)
theorem ObjOk.stay (x:ObjOk P w H h a o) (k:∀ b u,(b=a\/H b=some (.own a))->h.get? b=some u->h'.get? b=some u)
  (ho:∀ b,H b=some (.own a)->H' b=some (.own a)) (ht:∀ b xs,H b=some (.tup xs)->H' b=some (.tup xs)):ObjOk P w H' h' a o:=by
 induction o with
 | lst xs=>obtain ⟨z,its,n,r,e⟩:=x; exact ⟨z,its,n,r,k _ _ (.inl rfl) e⟩
 | tup xs=>
  obtain ⟨z,its,r,⟨ob,e,c⟩,dn⟩:=x
  have e':=k _ _ (.inl rfl) e
  exact ⟨z,its,r,⟨ob,e',c⟩,fun o q=>by rw [e'] at q; cases q; exact dn _ e⟩
 | dK kvs=>obtain ⟨z,y,vs,r,ob,es,ep,e,c⟩:=x; exact ⟨z,y,vs,r,ob,es,ep,k _ _ (.inl rfl) e,c⟩
 | dT kvs=>
  obtain ⟨z,y,xs,r,ob,es,ep,e,c⟩:=x
  exact ⟨z,y,xs,Paired.mapP r fun p q z=>⟨z.1,ht _ _ z.2.1,z.2.2⟩,ob,es,ep,k _ _ (.inl rfl) e,c⟩
 | set S n=>obtain ⟨ob,es,ep,t,e,c⟩:=x; exact ⟨ob,es,ep,t,k _ _ (.inl rfl) e,c⟩
 | ins C dx fs=>
  obtain ⟨d,z,ne,e,mA,⟨od,es,ep,e2,c⟩,r⟩:=x
  exact ⟨ho _ d,z,ne,k _ _ (.inl rfl) e,mA,⟨od,es,ep,k _ _ (.inr d) e2,c⟩,r⟩
 | own y=>obtain ⟨ob,e⟩:=x; exact ⟨ob,k _ _ (.inl rfl) e⟩
 | xd fs=>obtain ⟨mA,⟨od,es,ep,e,c⟩,r⟩:=x; exact ⟨mA,⟨od,es,ep,k _ _ (.inl rfl) e,c⟩,r⟩
 | rng lo hi=>obtain ⟨t,u,v,e⟩:=x; exact ⟨t,u,v,k _ _ (.inl rfl) e⟩
 | frz ob u ih=>obtain ⟨e,q⟩:=x; exact ⟨k _ _ (.inl rfl) e,ih q⟩
 | tbl ps=>
  have e:h.get? a=some { cls:=.none,data:=.fields ps }:=x
  show h'.get? a=some { cls:=.none,data:=.fields ps }
  exact k a _ (.inl rfl) e
 | met f y=>
  have e:h.get? a=some (PySem.W.methodObj (.ref f) (.ref y)):=x
  show h'.get? a=some (PySem.W.methodObj (.ref f) (.ref y))
  exact k a _ (.inl rfl) e
 | ext φ=>obtain ⟨p,⟨o,e⟩,st⟩:=x; exact ⟨st _ _ p fun o q=>k _ _ (.inl rfl) q,⟨o,k _ _ (.inl rfl) e⟩,st⟩
theorem HOk.lt (x:HOk P w H h) (e:H a=some o):a < h.objs.size:=(x a o e).lt
theorem HOk.fresh (x:HOk P w H h) (e:h.objs.size<=a):H a=none:=by
 cases q:H a with
 | none=>rfl
 | some u=>exact absurd (Nat.lt_of_lt_of_le (x.lt q) e) (Nat.lt_irrefl _)
theorem HOk.kept (x:HOk P w H h) (k:∀ b u,h.get? b=some u->h'.get? b=some u):HOk P w H h':=fun a o e=>
 (x a o e).stay (fun b u _ q=>k b u q) (fun _ q=>q) fun _ _ q=>q
theorem HOk.laid (x:HOk P w H h) (k:∀ b u,h.get? b=some u->h'.get? b=some u) (hp:h.objs.size<=a) (new:ObjOk P w (upd H a o) h' a o):HOk P w (upd H a o) h':=fun b u e=>by
 have hn:=x.fresh hp
 by_cases hb:b=a
 ·subst hb; rw [upd_same] at e; cases e; exact new
 ·rw [upd_ne hb] at e
  exact (x b u e).stay (fun c v _ q=>k c v q) (fun c q=>by rw [upd_ne (ne_of_none q hn)]; exact q) fun c xs q=>by rw [upd_ne (ne_of_none q hn)]; exact q
end
def Rd (H:Hp) (a:Addr) (u:HO):Prop:=H a=some u\/∃ o,H a=some (.frz o u)
theorem Rd.ok {P:Program} {w:World} {H:Hp} {h:Heap} {a:Addr} {u:HO} (r:Rd H a u) (x:HOk P w H h):ObjOk P w H h a u:=by
 rcases r with r | ⟨o,r⟩
 ·exact x a u r
 ·obtain ⟨_,q⟩:=x a _ r
  exact q
def Mut:Option HO->Prop
 | some (.lst _)=>True
 | some (.dK _)=>True
 | some (.dT _)=>True
 | some (.set _ _)=>True
 | some (.ins _ _ _)=>True
 | some (.ext _)=>True
 | _=>False
section
variable {P:Program} {w:World} {H:Hp} {h h':Heap} {x e:Addr} {o':HO}
theorem HOk.write (ok:HOk P w H h) (mu:Mut (H x)) (he:e=x\/H e=some (.own x)) (k:∀ b u,b ≠ e->h.get? b=some u->h'.get? b=some u) (heo:∃ u,h'.get? e=some u)
  (new:ObjOk P w (upd H x o') h' x o'):HOk P w (upd H x o') h':=fun b u q=>by
 have nown:∀ c y,H c=some (.own y)->c ≠ x:=fun c y r z=>by subst z; rw [r] at mu; exact mu
 have ntup:∀ c xs,H c=some (.tup xs)->c ≠ x:=fun c xs r z=>by subst z; rw [r] at mu; exact mu
 by_cases hb:b=x
 ·subst hb; rw [upd_same] at q; cases q; exact new
 ·rw [upd_ne hb] at q
  by_cases hbe:b=e
  ·have q':H b=some (.own x):=by
    rcases he with z | z
    ·exact absurd (hbe.trans z) hb
    ·rw [hbe]; exact z
   rw [q] at q'; cases q'
   obtain ⟨v,hv⟩:=heo
   exact ⟨v,by rw [hbe]; exact hv⟩
  ·refine (ok b u q).stay (fun c v hc r=>k c v ?_ r) (fun c r=>by rw [upd_ne (nown c b r)]; exact r) fun c xs r=>by rw [upd_ne (ntup c xs r)]; exact r
   rcases hc with rfl | hc
   ·exact hbe
   ·rintro rfl
    rcases he with z | z
    ·exact nown c b hc z
    ·rw [hc] at z; cases z; exact hb rfl
end
structure Un (fs ex:List Addr) (H H':Hp) (h h':Heap):Prop where
 keep:∀ b o,h.get? b=some o->H b=none->b ∉ fs->b ∉ ex->h'.get? b=some o
 slot:∀ b o,h.get? b=some o->H b=none->b ∈ fs->b ∉ ex->∃ sl,h'.get? b=some { o with slots:=sl }
 free:∀ b o,h.get? b=some o->H b=none->b ∉ ex->H' b=none
 there:∀ b o,h.get? b=some o->b ∉ ex->∃ o',h'.get? b=some o'
 tups:∀ b xs,H b=some (.tup xs)->H' b=some (.tup xs)
 frzs:∀ b o u,H b=some (.frz o u)->H' b=some (.frz o u)
 tbls:∀ b ps,H b=some (.tbl ps)->∃ more,H' b=some (.tbl (ps ++ more))
section
variable {fs fs' ex ex':List Addr} {H H1 H2:Hp} {h h1 h2 h':Heap} {a x e:Addr} {o:HO}
theorem Un.any (u:Un fs ex H H1 h h1) {b:Addr} {ob:Obj} (q:h.get? b=some ob) (n:H b=none) (hx:b ∉ ex):∃ sl,h1.get? b=some { ob with slots:=sl }:=by
 by_cases hb:b ∈ fs
 ·exact u.slot b ob q n hb hx
 ·exact ⟨ob.slots,u.keep b ob q n hb hx⟩
theorem Un.kept (k:∀ b u,h.get? b=some u->h'.get? b=some u):Un fs ex H H h h':=
 ⟨fun b ob q _ _ _=>k b ob q,fun b ob q _ _ _=>⟨ob.slots,k b ob q⟩,fun _ _ _ n _=>n,fun b ob q _=>⟨ob,k b ob q⟩,fun _ _ q=>q,fun _ _ _ q=>q,fun _ ps q=>⟨#[],by rw [q]; simp⟩⟩
theorem Un.refl:Un fs ex H H h h:=Un.kept fun _ _ q=>q
theorem Un.laid (k:∀ b u,h.get? b=some u->h'.get? b=some u) (hp:h.objs.size<=a) (hn:H a=none):Un fs ex H (upd H a o) h h' where
 keep:=fun b u q _ _ _=>k b u q
 slot:=fun b u q _ _ _=>⟨u.slots,k b u q⟩
 free:=fun b u q n _=>by rw [upd_ne (Nat.ne_of_lt (Nat.lt_of_lt_of_le (Heap.lt_size q) hp))]; exact n
 there:=fun b u q _=>⟨u,k b u q⟩
 tups:=fun b xs q=>by rw [upd_ne (ne_of_none q hn)]; exact q
 frzs:=fun b u xs q=>by rw [upd_ne (ne_of_none q hn)]; exact q
 tbls:=fun b ps q=>⟨#[],by rw [upd_ne (ne_of_none q hn),q]; simp⟩
theorem Un.write (mu:Mut (H x)) (he:e=x\/H e=some (.own x)) (k:∀ b u,b ≠ e->h.get? b=some u->h'.get? b=some u) (heo:∃ u,h'.get? e=some u):Un fs ex H (upd H x o) h h':=by
 have hx:∀ b,H b=none->b ≠ x:=fun b n z=>by subst z; rw [n] at mu; exact mu
 have hb:∀ b,H b=none->b ≠ e:=fun b n z=>by
  subst z
  rcases he with r | r
  ·exact hx b n r
  ·rw [n] at r; cases r
 have hm:∀ b u,H b=some u->¬ Mut (some u)->b ≠ x:=fun b u q nm z=>by subst z; rw [q] at mu; exact nm mu
 refine ⟨fun b u q n _ _=>k b u (hb b n) q,fun b u q n _ _=>⟨u.slots,k b u (hb b n) q⟩,fun b u q n _=>by rw [upd_ne (hx b n)]; exact n,fun b u q _=>?_,
  fun b xs q=>by rw [upd_ne (hm b _ q fun z=>z)]; exact q,fun b u xs q=>by rw [upd_ne (hm b _ q fun z=>z)]; exact q,fun b ps q=>⟨#[],by rw [upd_ne (hm b _ q fun z=>z),q]; simp⟩⟩
 by_cases hbe:b=e
 ·subst hbe; exact heo
 ·exact ⟨u,k b u hbe q⟩
end
def trk (h:Heap) (H:Hp):List Addr:=(List.range h.objs.size).filter fun a=>(H a).isSome
def hidT (h:Heap) (H:Hp):Heap:=PySem.W.hideAll h (trk h H)
theorem hidT_size (h:Heap) (H:Hp):(hidT h H).objs.size=h.objs.size:=PySem.W.hideAll_size _ _
theorem hidT_get {h:Heap} {H:Hp} {b:Addr} {o:Obj} (e:h.get? b=some o) (n:H b=none):(hidT h H).get? b=some o:=
 PySem.W.hideAll_get _ e fun hm=>by
  have q:(H b).isSome=true:=(List.mem_filter.mp hm).2
  rw [n] at q; simp at q
theorem of_hidT {h:Heap} {H:Hp} {b:Addr} {o:Obj} (e:(hidT h H).get? b=some o):h.get? b=some o/\H b=none:=by
 have e':h.get? b=some o:=PySem.W.of_hideAll (trk h H) e
 refine ⟨e',?_⟩
 cases q:H b with
 | none=>rfl
 | some x=>
  have hm:b ∈ trk h H:=List.mem_filter.mpr ⟨List.mem_range.mpr (Heap.lt_size e'),by simp [q]⟩
  have z:(hidT h H).get? b=none:=PySem.W.hideAll_none (trk h H) hm
  rw [z] at e; cases e
end L2
namespace L2
open PySem PySem.Spec PyProof.Rows
structure Mod (K:PySem.W.Frag) (mg:Str->Option Value) (base:Heap):Prop where
 kin:K.In base
 glob:base.Ns mainGlobals mg
 blt:∃ mb,base.Ns builtinsNs mb/\∀ x:Str,x ≠ "__name__"->mb x=bootBuiltins x
 nolimit:base.NoLimit
structure Cx where
 prog:Program
 w:World
 K:PySem.W.Frag
 mg:Str->Option Value
 base:Heap
 A:Around
 N:List Str
 s₀:Shared
 H₀:Hp
 env:Env
 outer:List Env
 stack:List Env
 ex:List Addr
 fn:Str->Bool
 calm:Bool
 pn:List (Addr × Obj)
 xe:Value->Shared->Prop
def frs (l:List Env):List Addr:=l.filterMap (·.frame)
abbrev Cx.fs (X:Cx):List Addr:=frs X.outer
def Vis (sc:Scope) (x:Str):Prop:=sc.names.lookup x=some .local\/sc.names.lookup x=some .cell\/sc.names.lookup x=some .free
def Loc (sc:Scope) (x:Str):Prop:=sc.names.lookup x=some .local\/sc.names.lookup x=some .cell
def Look (env:Env) (h:Heap) (m:Str->Option Value) (x:Str) (u:Value):Prop:=
 (env.kindOf x=some .local/\m x=some u)\/((env.kindOf x=some .cell\/env.kindOf x=some .free)/\∃ c,env.cells.lookup x=some c/\h.IsCell c (some u))
structure Cx.Ok (X:Cx):Prop where
 mod:Mod X.K X.mg X.base
 kind:X.env.scope.kind=.function
 glob:X.env.globals=mainGlobals
 blt:X.env.builtins=builtinsNs
 above:X.s₀.heap.objs.size<=X.env.locals
 inj:∀ x y c,X.env.cells.lookup x=some c->X.env.cells.lookup y=some c->x=y
 has:∀ x,(X.env.kindOf x=some .cell\/X.env.kindOf x=some .free)->∃ c,X.env.cells.lookup x=some c
 cab:∀ x c,X.fn x=true->X.env.cells.lookup x=some c->X.s₀.heap.objs.size<=c
 hd:X.calm=true->X.A.handled=none
 frames:X.A.frames=some X.stack
 stk:X.stack=X.outer\/(X.stack=X.env :: X.outer/\X.env.frame=some X.env.locals)
 exf:∀ b ∈ X.ex,b ≠ X.env.locals/\∀ x c,X.env.cells.lookup x=some c->c ≠ b
 bs:∀ b o,X.base.get? b=some o->X.s₀.heap.get? b=some o/\X.H₀ b=none
 bsz:X.base.objs.size<=X.s₀.heap.objs.size
 noex:∀ b o,X.base.get? b=some o->b ∉ X.ex
 exfs:∀ b ∈ X.ex,b ∉ X.fs
 funs:X.s₀.heap.FunFrames X.base X.outer
 frf:∀ b ∈ X.fs,X.H₀ b=none
structure Inv (X:Cx) (pins:List (Addr × Obj)) (σ:List (Option V)) (H:Hp) (s:Shared):Prop where
 ok:X.Ok
 os:s.os=X.s₀.os
 bare:AllBare s.gens
 base:Un X.fs X.ex X.H₀ H X.s₀.heap s.heap
 loc:∃ m,s.heap.Ns X.env.locals m/\∀ (i:Nat) (x:Str) (v:V),X.N[i]? = some x->σ[i]? = some (some v)->Vis X.env.scope x->∃ u,RelV v u/\Look X.env s.heap m x u
 cell:∀ x c,X.env.cells.lookup x=some c->∃ v,s.heap.IsCell c v
 free:H X.env.locals=none
 freeC:∀ x c,X.env.cells.lookup x=some c->H c=none
 pin:∀ p ∈ X.pn ++ pins,s.heap.get? p.1=some p.2/\H p.1=none/\p.1 ≠ X.env.locals/\p.1 ∉ X.fs/\∀ v,p.2.data ≠ .cell v
 hok:HOk X.prog X.w H s.heap
 len:σ.length=X.N.length
section
variable {X:Cx} {pins:List (Addr × Obj)} {σ:List (Option V)} {H H':Hp} {s:Shared} {h':Heap}
theorem Cx.Ok.nofr (ok:X.Ok) {b:Addr} {o:Obj} (e:X.base.get? b=some o):b ∉ X.fs:=fun hb=>by
 have:=(ok.funs.mem hb).1
 rw [e] at this; cases this
theorem Inv.bs (I:Inv X pins σ H s):∀ b o,X.base.get? b=some o->s.heap.get? b=some o/\H b=none:=fun b o e=>
 ⟨I.base.keep b o (I.ok.bs b o e).1 (I.ok.bs b o e).2 (I.ok.nofr e) (I.ok.noex b o e),I.base.free b o (I.ok.bs b o e).1 (I.ok.bs b o e).2 (I.ok.noex b o e)⟩
theorem Inv.bk (I:Inv X pins σ H s):∀ b o,X.base.get? b=some o->s.heap.get? b=some o:=fun b o e=>(I.bs b o e).1
theorem Inv.mod (I:Inv X pins σ H s):Mod X.K X.mg X.base:=I.ok.mod
theorem Inv.kIn (I:Inv X pins σ H s):X.K.In s.heap:=I.ok.mod.kin.keeps I.bk
theorem Inv.lt (I:Inv X pins σ H s):X.env.locals < s.heap.objs.size:=let ⟨_,hn,_⟩:=I.loc; hn.lt
theorem Inv.sz (I:Inv X pins σ H s):X.s₀.heap.objs.size<=s.heap.objs.size:=Nat.le_trans I.ok.above (Nat.le_of_lt I.lt)
theorem Inv.nofs (I:Inv X pins σ H s) {a:Addr} (h:s.heap.objs.size<=a):a ∉ X.fs:=fun hb=>by
 obtain ⟨_,o,ho,_⟩:=I.ok.funs.mem hb
 exact absurd (Nat.lt_of_lt_of_le (Heap.lt_size ho) (Nat.le_trans I.sz h)) (Nat.lt_irrefl _)
theorem Inv.cne (I:Inv X pins σ H s):∀ x c,X.env.cells.lookup x=some c->c ≠ X.env.locals:=fun x c e z=>by
 obtain ⟨v,o,ho,hd⟩:=I.cell x c e
 obtain ⟨m,⟨o',es,ep,ho',hd',_⟩,_⟩:=I.loc
 rw [z,ho'] at ho; cases ho; rw [hd'] at hd; cases hd
theorem Inv.funs (I:Inv X pins σ H s):s.heap.FunFrames X.base X.outer:=by
 have all:∀ (l:List Env),(∀ b ∈ frs l,b ∈ X.fs)->X.s₀.heap.FunFrames X.base l->s.heap.FunFrames X.base l:=by
  intro l
  induction l with
  | nil=>intro _ _; trivial
  | cons env r ih=>
   intro hs hl
   obtain ⟨hk,⟨L,o,hf,hn,ho,hd⟩,hr⟩:=hl
   have hL:L ∈ X.fs:=hs L (by unfold frs; rw [List.filterMap_cons,hf]; exact List.mem_cons_self)
   obtain ⟨sl,e⟩:=I.base.slot L o ho (I.ok.frf L hL) hL fun z=>I.ok.exfs L z hL
   exact ⟨hk,⟨L,_,hf,hn,e,hd⟩,ih (fun b hb=>hs b (by unfold frs; rw [List.filterMap_cons,hf]; exact List.mem_cons_of_mem _ hb)) hr⟩
 exact all X.outer (fun _ hb=>hb) I.ok.funs
theorem Inv.stack (I:Inv X pins σ H s):s.heap.FunFrames X.base X.stack:=by
 rcases I.ok.stk with e | ⟨e,hf⟩
 ·rw [e]; exact I.funs
 ·rw [e]
  obtain ⟨m,hn,_⟩:=I.loc
  refine .cons (by rw [I.ok.kind]; decide) hf hn ?_ I.funs
  exact Heap.get?_none_of_le (Nat.le_trans I.ok.bsz I.ok.above)
theorem Inv.stkSub (I:Inv X pins σ H s):∀ b ∈ frs X.stack,b ∈ X.env.locals :: X.fs:=fun b hb=>by
 rcases I.ok.stk with e | ⟨e,hf⟩
 ·rw [e] at hb; exact List.mem_cons_of_mem _ hb
 ·rw [e] at hb
  unfold frs at hb
  rw [List.filterMap_cons,hf] at hb
  exact hb
theorem Inv.stkFree (I:Inv X pins σ H s):∀ b ∈ frs X.stack,H b=none:=fun b hb=>by
 rcases List.mem_cons.mp (I.stkSub b hb) with e | hb
 ·rw [e]; exact I.free
 ·obtain ⟨_,o,ho,_⟩:=I.ok.funs.mem hb
  exact I.base.free b o ho (I.ok.frf b hb) fun z=>I.ok.exfs b z hb
theorem Inv.step {g':Array GenState} {t':Nat} {d':Drawn} {ch:List Addr} (I:Inv X pins σ H s)
  (hch:∀ b ∈ ch,(b ∈ X.ex\/X.s₀.heap.objs.size<=b)/\b ≠ X.env.locals/\(∀ x c,X.env.cells.lookup x=some c->c ≠ b)/\∀ p ∈ X.pn ++ pins,p.1 ≠ b)
  (keep:∀ b o,b ≠ X.env.locals->b ∉ X.fs->b ∉ ch->s.heap.get? b=some o->H b=none->h'.get? b=some o)
  (slot:∀ b o,b ≠ X.env.locals->b ∈ X.fs->b ∉ ch->s.heap.get? b=some o->H b=none->∃ sl,h'.get? b=some { o with slots:=sl }) (free:∀ b o,b ∉ ch->s.heap.get? b=some o->H b=none->H' b=none)
  (there:∀ b o,b ∉ ch->s.heap.get? b=some o->∃ o',h'.get? b=some o')
  (tups:∀ b xs,H b=some (.tup xs)->H' b=some (.tup xs)) (frzs:∀ b o u,H b=some (.frz o u)->H' b=some (.frz o u)) (tbls:∀ b ps,H b=some (.tbl ps)->∃ more,H' b=some (.tbl (ps ++ more)))
  (ns:∀ m,s.heap.Ns X.env.locals m->h'.Ns X.env.locals m) (hok:HOk X.prog X.w H' h') (hg:AllBare g') :
  Inv X pins σ H' { s with heap:=h',gens:=g',drawn:=d',toks:=t' }:=by
 have neL:∀ b o,X.s₀.heap.get? b=some o->b ≠ X.env.locals:=fun b o e=>Nat.ne_of_lt (Nat.lt_of_lt_of_le (Heap.lt_size e) I.ok.above)
 have neC:∀ b o,X.s₀.heap.get? b=some o->b ∉ X.ex->b ∉ ch:=fun b o e hx hb=>by
  rcases (hch b hb).1 with z | z
  ·exact hx z
  ·exact absurd (Nat.lt_of_lt_of_le (Heap.lt_size e) z) (Nat.lt_irrefl _)
 have cellK:∀ x c,X.env.cells.lookup x=some c->∀ v,s.heap.IsCell c v->h'.IsCell c v:=fun x c e v ⟨o,ho,hd⟩=>by
  have nch:c ∉ ch:=fun z=>(hch c z).2.2.1 x c e rfl
  by_cases hc:c ∈ X.fs
  ·obtain ⟨sl,q⟩:=slot c o (I.cne x c e) hc nch ho (I.freeC x c e)
   exact ⟨_,q,hd⟩
  ·exact ⟨o,keep c o (I.cne x c e) hc nch ho (I.freeC x c e),hd⟩
 refine ⟨I.ok,I.os,hg,⟨fun b o e n hb hx=>?_,fun b o e n hb hx=>?_,fun b o e n hx=>?_,fun b o e hx=>?_,fun b xs e=>tups b xs (I.base.tups b xs e),fun b o xs e=>frzs b o xs (I.base.frzs b o xs e),fun b ps e=>?_⟩,?_,fun x c e=>?_,?_,fun x c e=>?_,fun p hp=>?_,hok,I.len⟩
 ·exact keep b o (neL b o e) hb (neC b o e hx) (I.base.keep b o e n hb hx) (I.base.free b o e n hx)
 ·obtain ⟨sl,e1⟩:=I.base.slot b o e n hb hx
  obtain ⟨sl',e2⟩:=slot b _ (neL b o e) hb (neC b o e hx) e1 (I.base.free b o e n hx)
  exact ⟨sl',e2⟩
 ·obtain ⟨o',e1⟩:=I.base.there b o e hx
  exact free b o' (neC b o e hx) e1 (I.base.free b o e n hx)
 ·obtain ⟨o',e1⟩:=I.base.there b o e hx
  exact there b o' (neC b o e hx) e1
 ·obtain ⟨m1,e1⟩:=I.base.tbls b ps e
  obtain ⟨m2,e2⟩:=tbls b _ e1
  exact ⟨m1 ++ m2,by rw [e2,Array.append_assoc]⟩
 ·obtain ⟨m,hn,hl⟩:=I.loc
  refine ⟨m,ns m hn,fun i x v e1 e2 e3=>?_⟩
  obtain ⟨u,r,l⟩:=hl i x v e1 e2 e3
  refine ⟨u,r,?_⟩
  rcases l with l | ⟨k,c,e,z⟩
  ·exact .inl l
  ·exact .inr ⟨k,c,e,cellK x c e _ z⟩
 ·obtain ⟨v,z⟩:=I.cell x c e
  exact ⟨v,cellK x c e v z⟩
 ·obtain ⟨m,⟨o,_,_,ho,_⟩,_⟩:=I.loc
  exact free _ o (fun z=>(hch _ z).2.1 rfl) ho I.free
 ·obtain ⟨v,o,ho,hd⟩:=I.cell x c e
  exact free c o (fun z=>(hch c z).2.2.1 x c e rfl) ho (I.freeC x c e)
 ·obtain ⟨e,n,ne,nf,d⟩:=I.pin p hp
  have nch:p.1 ∉ ch:=fun z=>(hch p.1 z).2.2.2 p hp rfl
  exact ⟨keep p.1 p.2 ne nf nch e n,free p.1 p.2 nch e n,ne,nf,d⟩
theorem Inv.un {t':Nat} (I:Inv X pins σ H s) (u:Un X.fs [] H H' s.heap h') (hok:HOk X.prog X.w H' h'):Inv X pins σ H' { s with heap:=h',toks:=t' }:=by
 obtain ⟨m,⟨o,es,ep,ho,r⟩,_⟩:=id I.loc
 obtain ⟨sl,hL⟩:=u.any ho I.free (by simp)
 exact I.step (g':=s.gens) (d':=s.drawn) (ch:=[]) (fun _ z=>nomatch z) (fun b o _ hb _ e n=>u.keep b o e n hb (by simp)) (fun b o _ hb _ e n=>u.slot b o e n hb (by simp)) (fun b o _ e n=>u.free b o e n (by simp)) (fun b o _ e=>u.there b o e (by simp)) u.tups u.frzs u.tbls (fun m' hm=>by
  obtain ⟨o',es',ep',ho',r'⟩:=hm
  rw [ho] at ho'; cases ho'
  exact ⟨_,es',ep',hL,r'⟩) hok I.bare
theorem Inv.call {g':Array GenState} {t':Nat} {d':Drawn} {ch:List Addr} (I:Inv X pins σ H s) (u:Un (frs X.stack) ch H H' s.heap h') (hok:HOk X.prog X.w H' h') (hg:AllBare g')
  (hch:∀ b ∈ ch,(b ∈ X.ex\/X.s₀.heap.objs.size<=b)/\b ≠ X.env.locals/\(∀ x c,X.env.cells.lookup x=some c->c ≠ b)/\∀ p ∈ X.pn ++ pins,p.1 ≠ b) :
  Inv X pins σ H' { s with heap:=h',gens:=g',drawn:=d',toks:=t' }:=by
 obtain ⟨m,⟨o,es,ep,ho,r⟩,_⟩:=id I.loc
 obtain ⟨sl,hL⟩:=u.any ho I.free fun z=>(hch _ z).2.1 rfl
 exact I.step (ch:=ch) hch (fun b o hL hb hc e n=>u.keep b o e n (fun z=>(List.mem_cons.mp (I.stkSub b z)).elim hL hb) hc) (fun b o _ _ hc e n=>u.any e n hc) (fun b o hc e n=>u.free b o e n hc) (fun b o hc e=>u.there b o e hc) u.tups u.frzs u.tbls (fun m' hm=>by
  obtain ⟨o',es',ep',ho',r'⟩:=hm
  rw [ho] at ho'; cases ho'
  exact ⟨_,es',ep',hL,r'⟩) hok hg
theorem Inv.turned {t':Nat} {it:Addr} (I:Inv X pins σ H s) (k:∀ b o,b ≠ it->s.heap.get? b=some o->h'.get? b=some o) (hn:H it=none) (hL:it ≠ X.env.locals)
  (h1:it ∈ X.ex\/X.s₀.heap.objs.size<=it) (h2:∀ x c,X.env.cells.lookup x=some c->c ≠ it) (h3:∀ p ∈ X.pn ++ pins,p.1 ≠ it):Inv X pins σ H { s with heap:=h',toks:=t' }:=by
 have nit:∀ b u,H b=some u->b ≠ it:=fun b u e z=>by rw [z,hn] at e; cases e
 refine I.step (g':=s.gens) (d':=s.drawn) (ch:=[it]) (fun b hb=>?_) (fun b o _ _ hc e _=>k b o (fun z=>hc (by simp [z])) e) (fun b o _ _ hc e _=>⟨o.slots,k b o (fun z=>hc (by simp [z])) e⟩) (fun _ _ _ _ n=>n)
  (fun b o hc e=>⟨o,k b o (fun z=>hc (by simp [z])) e⟩) (fun _ _ e=>e) (fun _ _ _ e=>e) (fun b ps e=>⟨#[],by rw [e]; simp⟩) (fun m hm=>?_) (fun b u e=>?_) I.bare
 ·have e:b=it:=by simpa using hb
  subst e
  exact ⟨h1,hL,h2,h3⟩
 ·obtain ⟨o,es,ep,ho,r⟩:=hm
  exact ⟨o,es,ep,k _ o (Ne.symm hL) ho,r⟩
 ·refine (I.hok b u e).stay (fun c v hc q=>k c v ?_ q) (fun _ q=>q) fun _ _ q=>q
  rcases hc with z | z
  ·rw [z]; exact nit b u e
  ·exact nit c _ z
theorem Inv.tok (I:Inv X pins σ H s) (t:Nat):Inv X pins σ H { s with toks:=t }:=I.un (h':=s.heap) (t':=t) Un.refl I.hok
theorem Inv.kept {t':Nat} (I:Inv X pins σ H s) (k:∀ b u,s.heap.get? b=some u->h'.get? b=some u):Inv X pins σ H { s with heap:=h',toks:=t' }:=I.un (Un.kept k) (I.hok.kept k)
theorem Inv.laid {a:Addr} {o:HO} {t':Nat} (I:Inv X pins σ H s) (k:∀ b u,s.heap.get? b=some u->h'.get? b=some u) (hp:s.heap.objs.size<=a) (new:ObjOk X.prog X.w (upd H a o) h' a o) :
  Inv X pins σ (upd H a o) { s with heap:=h',toks:=t' }:=I.un (Un.laid k hp (I.hok.fresh hp)) (I.hok.laid k hp new)
theorem Inv.write {x e:Addr} {o:HO} {t':Nat} (I:Inv X pins σ H s) (mu:Mut (H x)) (he:e=x\/H e=some (.own x)) (k:∀ b u,b ≠ e->s.heap.get? b=some u->h'.get? b=some u) (heo:∃ u,h'.get? e=some u)
  (new:ObjOk X.prog X.w (upd H x o) h' x o):Inv X pins σ (upd H x o) { s with heap:=h',toks:=t' }:=I.un (Un.write mu he k heo) (I.hok.write mu he k heo new)
theorem Inv.pins_of {pins':List (Addr × Obj)} (I:Inv X pins σ H s) (h:∀ p ∈ pins',s.heap.get? p.1=some p.2/\H p.1=none/\p.1 ≠ X.env.locals/\p.1 ∉ X.fs/\∀ v,p.2.data ≠ .cell v):Inv X pins' σ H s:=
 ⟨I.ok,I.os,I.bare,I.base,I.loc,I.cell,I.free,I.freeC,fun p hp=>(List.mem_append.mp hp).elim (fun z=>I.pin p (List.mem_append_left _ z)) (h p),I.hok,I.len⟩
theorem nodup_ix {N:List Str} (hN:N.Nodup) {i j:Nat} {x:Str} (a:N[i]? = some x) (b:N[j]? = some x):i=j:=by
 obtain ⟨h1,e1⟩:=List.getElem?_eq_some_iff.mp a
 obtain ⟨h2,e2⟩:=List.getElem?_eq_some_iff.mp b
 exact (List.getElem_inj hN).mp (e1.trans e2.symm)
theorem store_ok2 {M:Model} {A:Around} {E:Value->Shared->Prop} {i:Nat} {x:Str} {v:V} {u:Value} {Q:Unit->Shared->Prop} (I:Inv X pins σ H s) (hN:X.N.Nodup) (hi:X.N[i]? = some x) (hx:Loc X.env.scope x) (r:RelV v u)
  (h:∀ s',Inv X pins (σ.set i (some v)) H s'->(∃ a,Heap.SameBut a s.heap s'.heap/\(a=X.env.locals\/X.env.cells.lookup x=some a))->Q () s') (hf:X.fn x=true\/X.env.scope.names.lookup x=some .local:=by first | exact .inl rfl | exact .inr rfl | assumption):wpAny M A (storeName X.env x u) Q E s:=by
 obtain ⟨m,hn,hl⟩:=id I.loc
 have hcls:(X.env.scope.kind == .class || (X.env.scope.kind == .module && X.env.locals != X.env.globals))=false:=by rw [I.ok.kind]; rfl
 have hiσ:i < σ.length:=by rw [I.len]; exact (List.getElem?_eq_some_iff.mp hi).1
 have cne:=I.cne
 have tracked:∀ {a:Addr} {h':Heap},(∃ o,s.heap.get? a=some o/\H a=none)->Heap.SameBut a s.heap h'->HOk X.prog X.w H h':=fun {a h'} ha hs b ob e=>by
  obtain ⟨_,_,hfree⟩:=ha
  refine (I.hok b ob e).stay (fun c w' hc q=>(hs.2 c ?_).trans q) (fun _ q=>q) fun _ _ q=>q
  rintro rfl
  rcases hc with rfl | hc
  ·rw [hfree] at e; cases e
  ·rw [hfree] at hc; cases hc
 rcases hx with hk | hk
 ·refine wpAny_storeName_local hk hn (fun h' hn' hs=>?_) hcls
  obtain ⟨oL,_,_,hoL,_⟩:=id hn
  refine h _ ⟨I.ok,I.os,I.bare,⟨fun b o e n hb hx=>?_,fun b o e n hb hx=>?_,I.base.free,fun b o e hx=>?_,I.base.tups,I.base.frzs,I.base.tbls⟩,⟨_,hn',fun j y v' e1 e2 e3=>?_⟩,fun y c e=>?_,I.free,I.freeC,fun p hp=>?_,tracked ⟨oL,hoL,I.free⟩ hs,by simpa using I.len⟩ ⟨_,hs,.inl rfl⟩
  ·exact (hs.2 b (Nat.ne_of_lt (Nat.lt_of_lt_of_le (Heap.lt_size e) I.ok.above))).trans (I.base.keep b o e n hb hx)
  ·obtain ⟨sl,e1⟩:=I.base.slot b o e n hb hx
   exact ⟨sl,(hs.2 b (Nat.ne_of_lt (Nat.lt_of_lt_of_le (Heap.lt_size e) I.ok.above))).trans e1⟩
  ·obtain ⟨o',e1⟩:=I.base.there b o e hx
   exact ⟨o',(hs.2 b (Nat.ne_of_lt (Nat.lt_of_lt_of_le (Heap.lt_size e) I.ok.above))).trans e1⟩
  ·by_cases hj:j=i
   ·subst hj
    rw [hi] at e1; cases e1
    rw [List.getElem?_set_self hiσ] at e2
    cases e2
    exact ⟨u,r,.inl ⟨hk,by simp⟩⟩
   ·rw [List.getElem?_set_ne (Ne.symm hj)] at e2
    obtain ⟨u',r',q⟩:=hl j y v' e1 e2 e3
    refine ⟨u',r',?_⟩
    rcases q with ⟨k,e⟩ | ⟨k,c,e,z⟩
    ·refine .inl ⟨k,?_⟩
     have:y ≠ x:=fun e=>hj (nodup_ix hN e1 (e ▸ hi))
     simp [this,e]
    ·exact .inr ⟨k,c,e,z.sameBut hs (cne y c e)⟩
  ·obtain ⟨w',z⟩:=I.cell y c e
   exact ⟨w',z.sameBut hs (cne y c e)⟩
  ·obtain ⟨e,n,ne,nf,d⟩:=I.pin p hp
   exact ⟨(hs.2 p.1 ne).trans e,n,ne,nf,d⟩
 ·have hfn:X.fn x=true:=by
   rcases hf with z | z
   ·exact z
   ·rw [z] at hk; cases hk
  obtain ⟨c,hc⟩:=I.ok.has x (.inl hk)
  obtain ⟨w',z⟩:=I.cell x c hc
  refine wpAny_storeName_cell I.ok.kind hk hc z (fun h' hc' hs=>?_)
  obtain ⟨oc,hoc,hocd⟩:=id z
  refine h { s with heap:=h' } ⟨I.ok,I.os,I.bare,⟨fun b o e n hb hx=>?_,fun b o e n hb hx=>?_,I.base.free,fun b o e hx=>?_,I.base.tups,I.base.frzs,I.base.tbls⟩,⟨m,hn.sameBut hs (Ne.symm (cne x c hc)),fun j y v' e1 e2 e3=>?_⟩,fun y c' e=>?_,I.free,I.freeC,fun p hp=>?_,tracked ⟨oc,hoc,I.freeC x c hc⟩ hs,by simpa using I.len⟩ ⟨c,hs,.inr hc⟩
  ·exact (hs.2 b (Nat.ne_of_lt (Nat.lt_of_lt_of_le (Heap.lt_size e) (I.ok.cab x c hfn hc)))).trans (I.base.keep b o e n hb hx)
  ·obtain ⟨sl,e1⟩:=I.base.slot b o e n hb hx
   exact ⟨sl,(hs.2 b (Nat.ne_of_lt (Nat.lt_of_lt_of_le (Heap.lt_size e) (I.ok.cab x c hfn hc)))).trans e1⟩
  ·obtain ⟨o',e1⟩:=I.base.there b o e hx
   exact ⟨o',(hs.2 b (Nat.ne_of_lt (Nat.lt_of_lt_of_le (Heap.lt_size e) (I.ok.cab x c hfn hc)))).trans e1⟩
  ·by_cases hj:j=i
   ·subst hj
    rw [hi] at e1; cases e1
    rw [List.getElem?_set_self hiσ] at e2
    cases e2
    exact ⟨u,r,.inr ⟨.inl hk,c,hc,hc'⟩⟩
   ·rw [List.getElem?_set_ne (Ne.symm hj)] at e2
    obtain ⟨u',r',q⟩:=hl j y v' e1 e2 e3
    refine ⟨u',r',?_⟩
    rcases q with q | ⟨k,c',e,z'⟩
    ·exact .inl q
    ·refine .inr ⟨k,c',e,z'.sameBut hs ?_⟩
     rintro rfl
     exact hj (nodup_ix hN e1 (I.ok.inj _ _ _ e hc ▸ hi))
  ·by_cases hcc:c'=c
   ·subst hcc; exact ⟨_,hc'⟩
   ·obtain ⟨w2,z2⟩:=I.cell y c' e
    exact ⟨w2,z2.sameBut hs hcc⟩
  ·obtain ⟨e,n,ne,nf,d⟩:=I.pin p hp
   refine ⟨(hs.2 p.1 ?_).trans e,n,ne,nf,d⟩
   intro q
   rw [q,hoc] at e
   have q':oc=p.2:=Option.some.inj e
   exact d w' (by rw [<-q']; exact hocd)
theorem store_ok {M:Model} {A:Around} {E:Value->Shared->Prop} {i:Nat} {x:Str} {v:V} {u:Value} {Q:Unit->Shared->Prop} (I:Inv X pins σ H s) (hN:X.N.Nodup) (hi:X.N[i]? = some x) (hx:Loc X.env.scope x) (r:RelV v u)
  (h:∀ s',Inv X pins (σ.set i (some v)) H s'->Q () s') (hf:X.fn x=true\/X.env.scope.names.lookup x=some .local:=by first | exact .inl rfl | exact .inr rfl | assumption):wpAny M A (storeName X.env x u) Q E s:=
 store_ok2 I hN hi hx r (fun s' I' _=>h s' I') hf
theorem Inv.call' {s':Shared} {ch:List Addr} (I:Inv X pins σ H s) (ho:s'.os=s.os) (u:Un (frs X.stack) ch H H' s.heap s'.heap) (hok:HOk X.prog X.w H' s'.heap) (hg:AllBare s'.gens)
  (hch:∀ b ∈ ch,(b ∈ X.ex\/X.s₀.heap.objs.size<=b)/\b ≠ X.env.locals/\(∀ x c,X.env.cells.lookup x=some c->c ≠ b)/\∀ p ∈ X.pn ++ pins,p.1 ≠ b):Inv X pins σ H' s':=by
 obtain ⟨h',g',d',t',o'⟩:=s'
 have e:o'=s.os:=ho
 subst e
 exact I.call (g':=g') (t':=t') (d':=d') u hok hg hch
end
abbrev XK:=Value->Option Addr->Hp->Prop
abbrev St:=List (Option V)
abbrev VK:=V->Hp->Prop
abbrev TE:=St->Hp->VK->Prop
abbrev TT:=St->Hp->(Bool->Hp->Prop)->Prop
abbrev TA:=St->Hp->(List V->Hp->Prop)->Prop
structure Ends where
 nx:St->Hp->Prop
 rt:VK
 bk:St->Hp->Prop:=fun _ _=>False
 ct:St->Hp->Prop:=fun _ _=>False
abbrev TS:=Ends->St->Hp->Prop
def EP (X:Cx) (pins:List (Addr × Obj)) (σ:St) (Q:VK) (u:Value) (s':Shared):Prop:=∃ v H',Inv X pins σ H' s'/\RelV v u/\Q v H'
def TP (X:Cx) (pins:List (Addr × Obj)) (σ:St) (Q:Bool->Hp->Prop) (b:Bool) (s':Shared):Prop:=∃ H',Inv X pins σ H' s'/\Q b H'
def AP (X:Cx) (pins:List (Addr × Obj)) (σ:St) (Q:List V->Hp->Prop) (us:List Value) (s':Shared):Prop:=∃ vs H',Inv X pins σ H' s'/\Vals vs us/\Q vs H'
def SP (X:Cx) (pins:List (Addr × Obj)) (D:Ends) (f:Flow) (s':Shared):Prop:=
 match f with
 | .next=>∃ σ' H',Inv X pins σ' H' s'/\D.nx σ' H'
 | .brk=>∃ σ' H',Inv X pins σ' H' s'/\D.bk σ' H'
 | .cont=>∃ σ' H',Inv X pins σ' H' s'/\D.ct σ' H'
 | .ret u=>∃ v σ' H',Inv X pins σ' H' s'/\RelV v u/\D.rt v H'
def PE (X:Cx) (e:Expr) (t:TE):Prop:=
 ∀ (pins:List (Addr × Obj)) (s:Shared) (σ:St) (H:Hp) (Q:VK),Inv X pins σ H s->t σ H Q->wpAny (model X.prog X.w) X.A (eval e X.env) (EP X pins σ Q) X.xe s
def PT (X:Cx) (e:Expr) (t:TT):Prop:=
 ∀ (pins:List (Addr × Obj)) (s:Shared) (σ:St) (H:Hp) (Q:Bool->Hp->Prop),Inv X pins σ H s->t σ H Q->wpAny (model X.prog X.w) X.A (isTrue e X.env (eval e X.env)) (TP X pins σ Q) X.xe s
def PW (X:Cx) (e:Expr) (t:TT):Prop:=
 ∀ (whole:Sem Value) (pins:List (Addr × Obj)) (s:Shared) (σ:St) (H:Hp) (Q:Bool->Hp->Prop),Inv X pins σ H s->t σ H Q->wpAny (model X.prog X.w) X.A (isTrue e X.env whole) (TP X pins σ Q) X.xe s
theorem PW.pt {X:Cx} {e:Expr} {t:TT} (h:PW X e t):PT X e t:=h _
def PA (X:Cx) (es:List Expr) (t:TA):Prop:=
 ∀ (pos:Pos) (pins:List (Addr × Obj)) (s:Shared) (σ:St) (H:Hp) (Q:List V->Hp->Prop),Inv X pins σ H s->t σ H Q->wpAny (model X.prog X.w) X.A (spliced (backTo pos (starEach es X.env))) (AP X pins σ Q) X.xe s
def PS (X:Cx) (st:Stmt) (t:TS):Prop:=
 ∀ (pins:List (Addr × Obj)) (s:Shared) (σ:St) (H:Hp) (D:Ends),Inv X pins σ H s->t D σ H->wpAny (model X.prog X.w) X.A (exec st X.env) (SP X pins D) X.xe s
def PSs (X:Cx) (st:List Stmt) (t:TS):Prop:=
 ∀ (pins:List (Addr × Obj)) (s:Shared) (σ:St) (H:Hp) (D:Ends),Inv X pins σ H s->t D σ H->wpAny (model X.prog X.w) X.A (execs st X.env) (SP X pins D) X.xe s
theorem thn {α:Type} {t:Sem α} {Q Q':α->Shared->Prop} {M:Model} {A:Around} {E:Value->Shared->Prop} {s:Shared} (h:wpAny M A t Q E s) (hQ:∀ a s,Q a s->Q' a s):wpAny M A t Q' E s:=wpAny_mono h hQ fun _ _ x=>x
end L2
namespace L2
open PySem PySem.Spec PyProof.Rows
section
variable {X:Cx}
def tVar (i:Nat):TE:=fun σ H Q=>∃ v,σ[i]? = some (some v)/\Q v H
def tC (v:V):TE:=fun _ H Q=>Q v H
theorem pe_var {i:Nat} {x:Str} {pos:Pos} (hN:X.N[i]? = some x) (hv:Vis X.env.scope x) (hd:(x == ("__debug__":Str))=false:=by decide) (hcd:(x == ("__classdict__":Str))=false:=by decide):PE X (.Name x pos) (tVar i):=by
 intro pins s σ H Q I h
 obtain ⟨v,e,h⟩:=h
 obtain ⟨m,hn,hl⟩:=I.loc
 obtain ⟨u,r,l⟩:=hl i x v hN e hv
 have fin:EP X pins σ Q u s:=⟨v,H,I,r,h⟩
 rcases l with ⟨hk,hm⟩ | ⟨hk,c,hc,hcell⟩
 ·exact wpAny_Name (wpAny_loadName_local I.ok.kind hk hn hm fin) hd
 ·rcases hk with hk | hk
  ·exact wpAny_Name (wpAny_loadName_cell I.ok.kind hk hc hcell fin) hd
  ·exact wpAny_Name (wpAny_loadName_free I.ok.kind hk hc hcell fin hcd) hd
theorem pe_int {i j pos}:PE X (.Constant (.int i) j pos) (tC (.int i)):=fun _ _ _ H _ I h=>wpAny_Constant_int ⟨.int i,H,I.tok _,⟨_,rfl⟩,h⟩
theorem pe_bl {b j pos}:PE X (.Constant (.bool b) j pos) (tC (.bl b)):=fun _ _ _ H _ I h=>Constant_bool ⟨.bl b,H,I,rfl,h⟩
theorem pe_non {j pos}:PE X (.Constant .none j pos) (tC .non):=fun _ _ _ H _ I h=>Constant_none ⟨.non,H,I,rfl,h⟩
theorem pe_str {x j pos}:PE X (.Constant (.str x) j pos) (tC (.str x)):=fun _ _ _ H _ I h=>Calls.Constant_str ⟨.str x,H,I.tok _,⟨_,rfl⟩,h⟩
def Gl (X:Cx) (x:Str):Prop:=X.env.kindOf x=some .globalImplicit
theorem ld_glob {E:Value->Shared->Prop} {pins:List (Addr × Obj)} {s:Shared} {σ:St} {H:Hp} {x:Str} {u:Value} {pos:Pos} {Q:Value->Shared->Prop} (I:Inv X pins σ H s) (hg:Gl X x) (hm:X.mg x=some u) (h:Q u s)
  (hd:(x == ("__debug__":Str))=false:=by decide):wpAny (model X.prog X.w) X.A (eval (.Name x pos) X.env) Q E s:=
 Calls.Name_function_global I.ok.kind hg (Calls.loadGlobal_global (by rw [I.ok.glob]; exact I.mod.glob.keeps I.bk) hm h) hd
theorem ld_blt {E:Value->Shared->Prop} {pins:List (Addr × Obj)} {s:Shared} {σ:St} {H:Hp} {x:Str} {u:Value} {pos:Pos} {Q:Value->Shared->Prop} (I:Inv X pins σ H s) (hg:Gl X x) (hm:X.mg x=none) (hv:bootBuiltins x=some u) (h:Q u s)
  (hn:x ≠ "__name__":=by decide) (hd:(x == ("__debug__":Str))=false:=by decide):wpAny (model X.prog X.w) X.A (eval (.Name x pos) X.env) Q E s:=by
 obtain ⟨mb,h1,h2⟩:=I.mod.blt
 exact Calls.Name_function_global I.ok.kind hg (Calls.loadGlobal_builtin (by rw [I.ok.glob]; exact I.mod.glob.keeps I.bk) hm (by rw [I.ok.blt]; exact h1.keeps I.bk) ((h2 x hn).trans hv) h) hd
theorem pe_glob {x:Str} {v:V} {u:Value} {pos:Pos} (hg:Gl X x) (hm:X.mg x=some u) (r:RelV v u) (hd:(x == ("__debug__":Str))=false:=by decide):PE X (.Name x pos) (tC v):=
 fun _ _ _ H _ I h=>ld_glob I hg hm ⟨v,H,I,r,h⟩ hd
theorem pe_bltn {x:Str} {v:V} {u:Value} {pos:Pos} (hg:Gl X x) (hm:X.mg x=none) (hv:bootBuiltins x=some u) (r:RelV v u) (hn:x ≠ "__name__":=by decide) (hd:(x == ("__debug__":Str))=false:=by decide):PE X (.Name x pos) (tC v):=
 fun _ _ _ H _ I h=>ld_blt I hg hm hv ⟨v,H,I,r,h⟩ hn hd
variable {a b:Expr} {ta tb:TE} {pos:Pos}
def PC (X:Cx) (op:CmpOp) (a b:Expr) (t:TE):Prop:=
 ∀ (pins:List (Addr × Obj)) (s:Shared) (σ:St) (H:Hp) (Q:VK),Inv X pins σ H s->t σ H Q ->
  wpAny (model X.prog X.w) X.A (eval a X.env) (fun v s₁=>wpAny (model X.prog X.w) X.A (eval b X.env) (fun u s₂=>wpAny (model X.prog X.w) X.A (compareOp op v u) (EP X pins σ Q) X.xe s₂) X.xe s₁) X.xe s
theorem nobehind (b:Expr) {op:CmpOp} (h:op ≠ .In) (h2:op ≠ .NotIn):behindInMarks op b=false:=by
 have e1:(op == CmpOp.In)=false:=by cases op <;> first | rfl | exact absurd rfl h
 have e2:(op == CmpOp.NotIn)=false:=by cases op <;> first | rfl | exact absurd rfl h2
 cases b <;> simp [behindInMarks,e1,e2]
def tIsN (ta:TE):TE:=fun σ H Q=>ta σ H fun x H1=>Q (.bl (decide (x=.non))) H1
theorem RelV.none_iff {x:V} {v:Value} (r:RelV x v):(v == Value.none)=decide (x=.non):=by
 cases x with
 | non=>cases r; rfl
 | bl _=>cases r; rfl
 | int _=>obtain ⟨t,rfl⟩:=r; rfl
 | str _=>obtain ⟨t,rfl⟩:=r; rfl
 | byt _=>obtain ⟨t,rfl⟩:=r; rfl
 | flt _=>obtain ⟨t,rfl⟩:=r; rfl
 | ref _=>cases r; rfl
 | ty _=>cases r; rfl
theorem pc_isN {j pos'} (ha:PE X a ta):PC X .Is a (.Constant .none j pos') (tIsN ta):=by
 intro pins s σ H Q I h
 refine thn (ha pins s σ H _ I h) fun v s1 ⟨x,H1,I1,r1,q1⟩=>?_
 exact Constant_none (is_none_gen ⟨.bl _,H1,I1,by rw [r1.none_iff]; rfl,q1⟩)
def tB (t:TE):TT:=fun σ H Q=>t σ H fun x H1=>∃ c,x=.bl c/\Q c H1
theorem pe_cmp {op:CmpOp} {t:TE} (h:PC X op a b t) (h1:behindInMarks op b=false:=by first | exact nobehind _ (by decide) (by decide) | rfl):PE X (.Compare a [op] [b] pos) t:=fun pins s σ H Q I hw=>wpAny_Compare1 (h pins s σ H Q I hw) h1
theorem pt_cmp {op:CmpOp} {t:TE} (h:PC X op a b t) (h1:behindInMarks op b=false:=by first | exact nobehind _ (by decide) (by decide) | rfl):PT X (.Compare a [op] [b] pos) (tB t):=by
 intro pins s σ H Q I hw
 refine wpAny_isTrue_Compare1 (thn (h pins s σ H _ I hw) fun v s1 h1=>thn h1 fun u s2 h2=>thn h2 fun c s3 ⟨x,H1,I1,r1,q1⟩=>?_) h1
 obtain ⟨d,rfl,q⟩:=q1
 cases r1
 exact wpAny_truthy_bool ⟨H1,I1,q⟩
theorem pt_val {e:Expr} {t:TE} (h:PE X e t) (he:∀ whole,isTrue e X.env whole=(do let v <- whole; standAt e.pos; holding [v] (truthy v)):=by intro _; rfl):PT X e (tB t):=by
 intro pins s σ H Q I hw
 refine isTrue_plain (thn (h pins s σ H _ I hw) fun v s1 ⟨x,H1,I1,r1,q1⟩=>?_) (he _)
 obtain ⟨d,rfl,q⟩:=q1
 cases r1
 exact wpAny_truthy_bool ⟨H1,I1,q⟩
variable {tA tB':TT} {rest:List Expr}
def tAnd (t u:TT):TT:=fun σ H Q=>t σ H fun c H1=>if c=true then u σ H1 Q else Q false H1
def tOr (t u:TT):TT:=fun σ H Q=>t σ H fun c H1=>if c=true then Q true H1 else u σ H1 Q
def tNot (t:TT):TT:=fun σ H Q=>t σ H fun c H1=>Q (!c) H1
theorem pw_and1 (ha:PT X a tA):PW X (.BoolOp .And [a] pos) tA:=by
 intro wh pins s σ H Q I h
 refine isTrue_and (thn (ha pins s σ H Q I h) fun c s1 e=>?_)
 cases c with
 | true=>exact isTrue_and_nil e
 | false=>exact e
theorem pw_or1 (ha:PT X a tA):PW X (.BoolOp .Or [a] pos) tA:=by
 intro wh pins s σ H Q I h
 refine isTrue_or (thn (ha pins s σ H Q I h) fun c s1 e=>?_)
 cases c with
 | false=>exact isTrue_or_nil e
 | true=>exact e
theorem pw_and (ha:PT X a tA) (hb:PW X (.BoolOp .And (b :: rest) pos) tB'):PW X (.BoolOp .And (a :: b :: rest) pos) (tAnd tA tB'):=by
 intro wh pins s σ H Q I h
 refine isTrue_and (thn (ha pins s σ H _ I h) fun c s1 ⟨H1,I1,q1⟩=>?_)
 cases c with
 | true=>exact hb wh pins s1 σ H1 Q I1 q1
 | false=>exact ⟨H1,I1,q1⟩
theorem pw_or (ha:PT X a tA) (hb:PW X (.BoolOp .Or (b :: rest) pos) tB'):PW X (.BoolOp .Or (a :: b :: rest) pos) (tOr tA tB'):=by
 intro wh pins s σ H Q I h
 refine isTrue_or (thn (ha pins s σ H _ I h) fun c s1 ⟨H1,I1,q1⟩=>?_)
 cases c with
 | true=>exact ⟨H1,I1,q1⟩
 | false=>exact hb wh pins s1 σ H1 Q I1 q1
theorem pt_not (ha:PT X a tA):PT X (.UnaryOp .Not a pos) (tNot tA):=by
 intro pins s σ H Q I h
 exact isTrue_not (ha pins s σ H (fun c H1=>Q (!c) H1) I h)
def tAndV (ta tb:TE):TE:=fun σ H Q=>ta σ H fun x H1=>∃ c,x=.bl c/\if c=true then tb σ H1 Q else Q (.bl false) H1
theorem pe_one {op} {t:TE} (h:PE X a t):PE X (.BoolOp op [a] pos) t:=fun pins s σ H Q I hw=>BoolOp_one (h pins s σ H Q I hw)
theorem pe_and (ha:PE X a ta) (hb:PE X (.BoolOp .And (b :: rest) pos) tb):PE X (.BoolOp .And (a :: b :: rest) pos) (tAndV ta tb):=by
 intro pins s σ H Q I h
 refine BoolOp_and (thn (ha pins s σ H _ I h) fun v s1 ⟨x,H1,I1,r1,q1⟩=>?_)
 obtain ⟨c,rfl,q1⟩:=q1
 cases r1
 refine wpAny_truthy_bool ?_
 cases c with
 | true=>exact hb pins s1 σ H1 Q I1 q1
 | false=>exact ⟨.bl false,H1,I1,rfl,q1⟩
def tIf (t:TT) (ta tb:TE):TE:=fun σ H Q=>t σ H fun c H1=>if c=true then ta σ H1 Q else tb σ H1 Q
theorem pe_ifExp {c:Expr} (hc:PT X c tA) (ha:PE X a ta) (hb:PE X b tb):PE X (.IfExp c a b pos) (tIf tA ta tb):=by
 intro pins s σ H Q I h
 refine wpAny_IfExp (thn (hc pins s σ H _ I h) fun d s1 ⟨H1,I1,q1⟩=>?_)
 cases d with
 | true=>exact ha pins s1 σ H1 Q I1 q1
 | false=>exact hb pins s1 σ H1 Q I1 q1
end
end L2
namespace L2
open PySem PySem.Spec PyProof.Rows
def SqL (K:PySem.W.Frag) (H:Hp) (a:Addr) (xs:List V):Prop:=
 Rd H a (.lst xs) \/
  ∃ (o:Obj) (its:Array Value) (n:Nat),K.lookup a=some o/\o.cls=.type "list"/\o.dict=none/\o.data=.seq its n/\its.size<=sizeLine/\Vals xs its.toList
def SqT (K:PySem.W.Frag) (H:Hp) (a:Addr) (xs:List V):Prop:=
 Rd H a (.tup xs) \/
  ∃ (o:Obj) (its:Array Value) (n:Nat),K.lookup a=some o/\o.cls=.type "tuple"/\o.data=.seq its n/\its.size<=sizeLine/\Vals xs its.toList
def absV:Value->Option V
 | .none=>some .non
 | .bool b=>some (.bl b)
 | .int i _=>some (.int i)
 | .str x _=>some (.str x)
 | .bytes b _=>some (.byt b)
 | .float b _=>some (.flt b)
 | .ref a=>some (.ref a)
 | .type n=>some (.ty n)
 | _=>none
theorem RelV.abs {x:V} {u:Value} (r:RelV x u):absV u=some x:=by
 cases x with
 | non=>cases r; rfl
 | bl _=>cases r; rfl
 | int _=>obtain ⟨t,rfl⟩:=r; rfl
 | str _=>obtain ⟨t,rfl⟩:=r; rfl
 | byt _=>obtain ⟨t,rfl⟩:=r; rfl
 | flt _=>obtain ⟨t,rfl⟩:=r; rfl
 | ref _=>cases r; rfl
 | ty _=>cases r; rfl
theorem RelV.inj {x y:V} {u:Value} (r:RelV x u) (q:RelV y u):x=y:=Option.some.inj (r.abs.symm.trans q.abs)
theorem Vals.inj:∀ {xs ys:List V} {us:List Value},Vals xs us->Vals ys us->xs=ys
 | _,_,_,.nil,.nil=>rfl
 | _,_,_,.cons r t,.cons r' t'=>by rw [r.inj r',Vals.inj t t']
section
variable {X:Cx} {pins:List (Addr × Obj)} {σ:St} {H:Hp} {s:Shared} {a:Addr} {xs ys:List V}
theorem SqL.of {K:PySem.W.Frag} (h:H a=some (.lst xs)):SqL K H a xs:=.inl (.inl h)
theorem SqT.of {K:PySem.W.Frag} (h:H a=some (.tup xs)):SqT K H a xs:=.inl (.inl h)
theorem Inv.list (I:Inv X pins σ H s) (h:SqL X.K H a xs):∃ its:List Value,Vals xs its/\PlainL s.heap a its.toArray/\xs.length<=sizeLine:=by
 rcases h with h | ⟨o,its,n,hk,hc,hd,hs,hz,r⟩
 ·obtain ⟨z,its,n,r,e⟩:=h.ok I.hok
  exact ⟨its,r,⟨_,n,e,rfl,rfl,rfl⟩,z⟩
 ·refine ⟨its.toList,r,⟨o,n,I.kIn a o hk,hc,hd,by simpa using hs⟩,?_⟩
  have e:=r.length
  simp only [Array.length_toList] at e
  (first|lia|omega)
theorem Inv.tuple (I:Inv X pins σ H s) (h:SqT X.K H a xs):∃ its:List Value,Vals xs its/\IsTup s.heap a its.toArray/\xs.length<=sizeLine:=by
 rcases h with h | ⟨o,its,n,hk,hc,hs,hz,r⟩
 ·obtain ⟨z,its,r,p,_⟩:=h.ok I.hok
  exact ⟨its,r,p,z⟩
 ·refine ⟨its.toList,r,⟨o,I.kIn a o hk,hc,n,by simpa using hs⟩,?_⟩
  have e:=r.length
  simp only [Array.length_toList] at e
  (first|lia|omega)
theorem Inv.list_inj (I:Inv X pins σ H s) (h:SqL X.K H a xs) (h':SqL X.K H a ys):xs=ys:=by
 obtain ⟨its,r,⟨o,n,e,_,_,d⟩,_⟩:=I.list h
 obtain ⟨its',r',⟨o',n',e',_,_,d'⟩,_⟩:=I.list h'
 rw [e] at e'; cases e'
 rw [d] at d'
 injection d' with d1 _
 have:its=its':=by simpa using congrArg Array.toList d1
 subst this
 exact r.inj r'
theorem Inv.tuple_inj (I:Inv X pins σ H s) (h:SqT X.K H a xs) (h':SqT X.K H a ys):xs=ys:=by
 obtain ⟨its,r,⟨o,e,_,n,d⟩,_⟩:=I.tuple h
 obtain ⟨its',r',⟨o',e',_,n',d'⟩,_⟩:=I.tuple h'
 rw [e] at e'; cases e'
 rw [d] at d'
 injection d' with d1 _
 have:its=its':=by simpa using congrArg Array.toList d1
 subst this
 exact r.inj r'
end
abbrev Cx.wish (X:Cx) (E:Value->Shared->Prop):Cx:={ X with xe:=E }
abbrev Cx.nox (X:Cx):Cx:=X.wish fun _ _=>False
theorem Cx.Ok.wish {X:Cx} (ok:X.Ok) (E:Value->Shared->Prop):(X.wish E).Ok:=
 ⟨ok.mod,ok.kind,ok.glob,ok.blt,ok.above,ok.inj,ok.has,ok.cab,ok.hd,ok.frames,ok.stk,ok.exf,ok.bs,ok.bsz,ok.noex,ok.exfs,ok.funs,ok.frf⟩
theorem Cx.Ok.unwish {X:Cx} {E:Value->Shared->Prop} (ok:(X.wish E).Ok):X.Ok:=
 ⟨ok.mod,ok.kind,ok.glob,ok.blt,ok.above,ok.inj,ok.has,ok.cab,ok.hd,ok.frames,ok.stk,ok.exf,ok.bs,ok.bsz,ok.noex,ok.exfs,ok.funs,ok.frf⟩
section
variable {X:Cx} {pins:List (Addr × Obj)} {σ:St} {H:Hp} {s:Shared} {E:Value->Shared->Prop}
theorem Inv.wish (I:Inv X pins σ H s) (E:Value->Shared->Prop):Inv (X.wish E) pins σ H s:=⟨I.ok.wish E,I.os,I.bare,I.base,I.loc,I.cell,I.free,I.freeC,I.pin,I.hok,I.len⟩
theorem Inv.unwish (I:Inv (X.wish E) pins σ H s):Inv X pins σ H s:=⟨I.ok.unwish,I.os,I.bare,I.base,I.loc,I.cell,I.free,I.freeC,I.pin,I.hok,I.len⟩
theorem SP.unwish {D:Ends} {f:Flow} {s':Shared} (h:SP (X.wish E) pins D f s'):SP X pins D f s':=by
 cases f with
 | next=>obtain ⟨σ',H',I,q⟩:=h; exact ⟨σ',H',I.unwish,q⟩
 | brk=>obtain ⟨σ',H',I,q⟩:=h; exact ⟨σ',H',I.unwish,q⟩
 | cont=>obtain ⟨σ',H',I,q⟩:=h; exact ⟨σ',H',I.unwish,q⟩
 | ret u=>obtain ⟨v,σ',H',I,r,q⟩:=h; exact ⟨v,σ',H',I.unwish,r,q⟩
theorem PSs.nox {st:List Stmt} {t:TS} (h:PSs X.nox st t):PSs X st t:=fun pins s σ H D I hw=>
 wpAny_mono (h pins s σ H D (I.wish _) hw) (fun _ _ q=>q.unwish) fun _ _ z=>False.elim z
end
section
variable {X:Cx} {st:Stmt} {rest:List Stmt} {t u:TS} {e:Expr} {te:TE} {pos:Pos}
def tNext:TS:=fun D σ H=>D.nx σ H
def tSeq (t u:TS):TS:=fun D σ H=>t { D with nx:=u D } σ H
theorem pss_nil:PSs X [] tNext:=fun _ _ σ H _ I h=>wpAny_execs_nil ⟨σ,H,I,h⟩
theorem pss_cons (h1:PS X st t) (h2:PSs X rest u):PSs X (st :: rest) (tSeq t u):=by
 intro pins s σ H D I h
 refine wpAny_execs_cons (thn (h1 pins s σ H { D with nx:=u D } I h) fun f s1 q=>?_)
 cases f with
 | next=>
  obtain ⟨σ',H',I',q⟩:=q
  exact h2 pins s1 σ' H' D I' q
 | ret v=>exact q
 | brk=>exact q
 | cont=>exact q
theorem pss_one (h1:PS X st t):PSs X [st] t:=by
 intro pins s σ H D I h
 refine wpAny_execs_cons (thn (h1 pins s σ H D I h) fun f s1 q=>?_)
 cases f with
 | next=>exact wpAny_execs_nil q
 | ret v=>exact q
 | brk=>exact q
 | cont=>exact q
theorem Inv.quiet {pins:List (Addr × Obj)} {σ:St} {H:Hp} {s:Shared} (I:Inv X pins σ H s):interactive X.env=false:=by simp [interactive,I.ok.kind]
def tDrop (te:TE):TS:=fun D σ H=>te σ H fun _ H1=>D.nx σ H1
theorem ps_expr (he:PE X e te) (hs:swapsWith e none pos.line X.env=pure false:=by rfl):PS X (.Expr e pos) (tDrop te):=by
 intro pins s σ H D I h
 exact wpAny_Expr_any (thn (he pins s σ H _ I h) fun v s1 ⟨x,H1,I1,r1,q1⟩=>⟨σ,H1,I1,q1⟩) I.quiet hs
def tRet (te:TE):TS:=fun D σ H=>te σ H D.rt
theorem ps_ret (he:PE X e te):PS X (.Return (some e) pos) (tRet te):=by
 intro pins s σ H D I h
 exact wpAny_Return_some (thn (he pins s σ H _ I h) fun v s1 ⟨x,H1,I1,r1,q1⟩=>⟨x,σ,H1,I1,r1,q1⟩)
def tIfS (c:TT) (t u:TS):TS:=fun D σ H=>c σ H fun b H1=>if b=true then t D σ H1 else u D σ H1
theorem ps_if {c:Expr} {a b:List Stmt} {tc:TT} (hc:PT X c tc) (ha:PSs X a t) (hb:PSs X b u):PS X (.If c a b pos) (tIfS tc t u):=by
 intro pins s σ H D I h
 refine wpAny_If (thn (hc pins s σ H _ I h) fun d s1 ⟨H1,I1,q1⟩=>?_)
 cases d with
 | true=>exact ha pins s1 σ H1 D I1 q1
 | false=>exact hb pins s1 σ H1 D I1 q1
end
abbrev TG:=V->St->Hp->(St->Hp->Prop)->Prop
abbrev TGs:=List V->St->Hp->(St->Hp->Prop)->Prop
def PG (X:Cx) (target:Expr) (t:TG):Prop:=
 ∀ (pins:List (Addr × Obj)) (s:Shared) (σ:St) (H:Hp) (v:V) (u:Value) (Q:St->Hp->Prop),Inv X pins σ H s->RelV v u->t v σ H Q ->
  wpAny (model X.prog X.w) X.A (assign target X.env u) (fun _ s'=>∃ σ' H',Inv X pins σ' H' s'/\Q σ' H') X.xe s
def PGs (X:Cx) (ts:List Expr) (t:TGs):Prop:=
 ∀ (pins:List (Addr × Obj)) (s:Shared) (σ:St) (H:Hp) (vs:List V) (us:List Value) (Q:St->Hp->Prop),Inv X pins σ H s->Vals vs us->t vs σ H Q ->
  wpAny (model X.prog X.w) X.A (assignInOrder ((assignEach ts X.env).map (·.2)) us) (fun _ s'=>∃ σ' H',Inv X pins σ' H' s'/\Q σ' H') X.xe s
abbrev TSet:=V->V->V->Hp->(Hp->Prop)->Prop
def PSet (X:Cx) (t:TSet):Prop:=
 ∀ (pins:List (Addr × Obj)) (s:Shared) (σ:St) (H:Hp) (o i v:V) (ov iv u:Value) (Q:Hp->Prop),Inv X pins σ H s->RelV o ov->RelV i iv->RelV v u->t o i v H Q ->
  wpAny (model X.prog X.w) X.A (setItem ov iv u) (fun _ s'=>∃ H',Inv X pins σ H' s'/\Q H') X.xe s
section
variable {X:Cx} {pos:Pos}
def gName (i:Nat):TG:=fun v σ H Q=>Q (σ.set i (some v)) H
theorem pg_name {i:Nat} {x:Str} (hN:X.N.Nodup) (hi:X.N[i]? = some x) (hx:Loc X.env.scope x) (hf:X.fn x=true\/X.env.scope.names.lookup x=some .local:=by first | exact .inl rfl | exact .inr rfl | assumption):PG X (.Name x pos) (gName i):=by
 intro pins s σ H v u Q I r h
 exact wpAny_assign_Name (store_ok I hN hi hx r (fun s' I'=>⟨_,H,I',h⟩) hf)
def gNil:TGs:=fun vs σ H Q=>vs=[]/\Q σ H
def gCons (t:TG) (u:TGs):TGs:=fun vs σ H Q=>∃ v r,vs=v :: r/\t v σ H fun σ' H'=>u r σ' H' Q
theorem pgs_nil:PGs X [] gNil:=by
 intro pins s σ H vs us Q I r h
 obtain ⟨e,h⟩:=h
 subst e
 cases r
 exact assignInOrder_nil ⟨σ,H,I,h⟩
theorem pgs_cons {e:Expr} {es:List Expr} {t:TG} {u:TGs} (h1:PG X e t) (h2:PGs X es u)
  (hs:(assignEach (e :: es) X.env).map (·.2)=assign e X.env :: (assignEach es X.env).map (·.2):=by rfl):PGs X (e :: es) (gCons t u):=by
 intro pins s σ H vs us Q I r h
 obtain ⟨v,vr,e1,h⟩:=h
 subst e1
 cases r with
 | cons r rr=>
  rw [hs]
  refine assignInOrder_cons (thn (h1 pins s σ H _ _ _ I r h) fun _ s1 ⟨σ1,H1,I1,q1⟩=>?_)
  exact h2 pins s1 σ1 H1 _ _ Q I1 rr q1
def gTup (K:PySem.W.Frag) (n:Nat) (t:TGs):TG:=fun v σ H Q=>∃ a xs,v=.ref a/\SqT K H a xs/\xs.length=n/\t xs σ H Q
theorem pg_tup {es:List Expr} {k:Nat} {t:TGs} {n:Nat} (hc:X.calm=true) (h:PGs X es t)
  (hn:(assignEach es X.env).length=n:=by rfl) (hst:(assignEach es X.env).findIdx? (·.1)=none:=by rfl):PG X (.Tuple es k pos) (gTup X.K n t):=by
 intro pins s σ H v u Q I r hw
 obtain ⟨a,xs,e1,hq,hl,hw⟩:=hw
 subst e1
 cases r
 obtain ⟨its,rv,ht,hz⟩:=I.tuple hq
 refine assign_Tuple_tuple (I.ok.hd hc) ht (by simp [hn,<-hl,rv.length]) hst fun h' hx=>?_
 have I1:Inv X pins σ H { s with heap:=h' }:=I.kept (t':=s.toks) fun b o e=>hx b o (Nat.ne_of_lt (Heap.lt_size e)) e
 exact h pins _ σ H xs _ Q I1 (by simpa using rv) hw
def gSub (to ti:TE) (t:TSet):TG:=fun v σ H Q=>to σ H fun o H1=>ti σ H1 fun i H2=>t o i v H2 fun H3=>Q σ H3
theorem pg_sub {o i:Expr} {to ti:TE} {t:TSet} (ho:PE X o to) (hi:PE X i ti) (hs:PSet X t)
  (ha:∀ v,assign (.Subscript o i pos) X.env v=(do
   let ov <- holding [v] (eval o X.env)
   let iv <- holding [v,ov] (eval i X.env)
   standAt pos
   holding [v,ov,iv] (setItem ov iv v)
   release [v,ov,iv] []):=by intro _; rfl):PG X (.Subscript o i pos) (gSub to ti t):=by
 intro pins s σ H v u Q I r h
 rw [ha]
 refine wpAny_bind (wpAny_holding (thn (ho pins s σ H _ I h) fun ov s1 ⟨x,H1,I1,r1,q1⟩=>?_))
 refine wpAny_bind (wpAny_holding (thn (hi pins s1 σ H1 _ I1 q1) fun iv s2 ⟨y,H2,I2,r2,q2⟩=>?_))
 refine wpAny_bind (wpAny_standAt (wpAny_bind (wpAny_holding (thn (hs pins s2 σ H2 x y v ov iv u _ I2 r1 r2 r q2) fun _ s3 ⟨H3,I3,q3⟩=>?_))))
 exact wpAny_release ⟨σ,H3,I3,q3⟩
def tAsg (te:TE) (g:TG):TS:=fun D σ H=>te σ H fun x H1=>g x σ H1 D.nx
theorem ps_asg {tg e:Expr} {te:TE} {g:TG} (he:PE X e te) (hg:PG X tg g) (hs:swapsWithSole [tg] e pos.line X.env=pure false:=by rfl) (hw:swappedStores [tg] e X.env=pure none:=by rfl)
  (h1:(assignEach [tg] X.env).map (·.2)=[assign tg X.env]:=by rfl):PS X (.Assign [tg] e pos) (tAsg te g):=by
 intro pins s σ H D I h
 refine wpAny_Assign_stores (thn (he pins s σ H _ I h) fun v s1 ⟨x,H1,I1,r1,q1⟩=>?_) hs hw
 rw [h1]
 exact thn (hg pins s1 σ H1 x v _ I1 r1 q1) fun _ s2 q=>q
theorem ps_set {i:Nat} {x:Str} {e:Expr} {te:TE} {pos':Pos} (hN:X.N.Nodup) (hi:X.N[i]? = some x) (hx:Loc X.env.scope x) (he:PE X e te) (hs:swapsWith e (some (.Name x pos')) pos.line X.env=pure false:=by rfl) (hf:X.fn x=true\/X.env.scope.names.lookup x=some .local:=by first | exact .inl rfl | exact .inr rfl | assumption) :
  PS X (.Assign [.Name x pos'] e pos) (tAsg te (gName i)):=by
 intro pins s σ H D I h
 refine wpAny_Assign_Name (thn (he pins s σ H _ I h) fun v s1 ⟨y,H1,I1,r1,q1⟩=>?_) hs
 exact store_ok I1 hN hi hx r1 (fun s2 I2=>⟨_,H1,I2,q1⟩) hf
end
section
variable {X:Cx} {pos:Pos}
end
structure It where
 go:Nat->Hp->Prop
 yld:Nat->Hp->V->Hp->Prop
 stop:Nat->Hp->Prop
def FpOk (X:Cx) (pins:List (Addr × Obj)) (H:Hp) (b:Addr):Prop:=
 H b=none/\b ≠ X.env.locals/\b ∉ X.fs/\(b ∈ X.ex\/X.s₀.heap.objs.size<=b)/\(∀ x c,X.env.cells.lookup x=some c->c ≠ b)/\∀ p ∈ X.pn ++ pins,p.1 ≠ b
theorem Inv.fpOk {X:Cx} {pins:List (Addr × Obj)} {σ:St} {H H':Hp} {s:Shared} {b:Addr} (I:Inv X pins σ H s) (hb:s.heap.objs.size<=b) (hn:H' b=none):FpOk X pins H' b:=by
 refine ⟨hn,Nat.ne_of_gt (Nat.lt_of_lt_of_le I.lt hb),I.nofs hb,.inr (Nat.le_trans I.sz hb),fun x c e z=>?_,fun p hp z=>?_⟩
 ·obtain ⟨v,q⟩:=I.cell x c e
  exact absurd (Nat.lt_of_lt_of_le q.lt (by rw [z]; exact hb)) (Nat.lt_irrefl _)
 ·exact absurd (Nat.lt_of_lt_of_le (Heap.lt_size (I.pin p hp).1) (by rw [z]; exact hb)) (Nat.lt_irrefl _)
structure Turn (P:Program) (w:World) (K:PySem.W.Frag) (tg:Expr) (J:It) (fp:List Addr) (it:Addr) (tn:Nat->Heap->Prop):Prop where
 mem:it ∈ fp
 obj:∀ i h,tn i h->∀ b ∈ fp,∃ o,h.get? b=some o/\∀ v,o.data ≠ .cell v
 keep:∀ i h h',tn i h->(∀ b ∈ fp,∀ o,h.get? b=some o->h'.get? b=some o)->tn i h'
 item:∀ (X:Cx),X.prog=P->X.w=w->X.K=K->X.calm=true->∀ (i:Nat) (pins:List (Addr × Obj)) (s:Shared) (σ:St) (H:Hp) (E:Value->Shared->Prop),Inv X pins σ H s->(∀ b ∈ fp,FpOk X pins H b)->tn i s.heap->J.go i H ->
  wpAny (model P w) X.A (pyNext (.ref it)) (fun r s1=>∃ u,r=some u /\
   wpAny (model P w) X.A (letOwnedTupleGo tg (.ref it) u) (fun _ s2=>∃ x H',Inv X pins σ H' s2/\RelV x u/\J.yld i H x H'/\tn (i + 1) s2.heap/\∀ b ∈ fp,H' b=none) E s1) E s
 done:∀ (X:Cx),X.prog=P->X.w=w->X.K=K->X.calm=true->∀ (i:Nat) (pins:List (Addr × Obj)) (s:Shared) (σ:St) (H:Hp) (E:Value->Shared->Prop),Inv X pins σ H s->(∀ b ∈ fp,FpOk X pins H b)->tn i s.heap->J.stop i H ->
  wpAny (model P w) X.A (pyNext (.ref it)) (fun r s1=>r=none/\Inv X pins σ H s1) E s
 self:∀ (A:Around) (i:Nat) (s:Shared) (Q:Value->Shared->Prop) (E:Value->Shared->Prop),tn i s.heap->Q (.ref it) s->wpAny (model P w) A (pyIter (.ref it)) Q E s
abbrev TI:=St->Hp->(It->Hp->Prop)->Prop
def PIE (X:Cx) (pins:List (Addr × Obj)) (σ:St) (tg:Expr) (R:It->Hp->Prop) (itv:Value) (s2:Shared):Prop:=
 ∃ (it:Addr) (fp:List Addr) (tn:Nat->Heap->Prop) (J:It) (H':Hp),itv=.ref it/\Inv X pins σ H' s2/\Turn X.prog X.w X.K tg J fp it tn/\tn 0 s2.heap/\(∀ b ∈ fp,FpOk X pins H' b)/\R J H'
def PI (X:Cx) (tg iter:Expr) (wi:TI):Prop:=
 ∀ (pins:List (Addr × Obj)) (s:Shared) (σ:St) (H:Hp) (R:It->Hp->Prop),Inv X pins σ H s->wi σ H R ->
  wpAny (model X.prog X.w) X.A (eval iter X.env) (fun v s1=>wpAny (model X.prog X.w) X.A (pyIter v) (PIE X pins σ tg R) X.xe s1) X.xe s
theorem go_of {M:Model} {A:Around} {E:Value->Shared->Prop} {s:Shared} {tg:Expr} {it:Addr} {u:Value} {o:Obj} {n:String} {vs:Array Value} {Q:Unit->Shared->Prop} (ho:s.heap.get? it=some o) (hc:o.cls=.type n) (hd:o.data=.fields vs)
  (hn:["enumerate","zip","dict_itemiterator","dict_reverseitemiterator","odict_iterator","itertools.zip_longest","itertools.pairwise"].contains n=false) (hQ:Q () s):wpAny M A (letOwnedTupleGo tg (.ref it) u) Q E s:=by
 unfold letOwnedTupleGo
 cases tg <;> first
  | exact wpAny_pure hQ
  | (cases u <;> first
    | exact wpAny_pure hQ
    | (refine wpAny_bind (wpAny_load ho ?_)
       rw [hc,hd]
       show wpAny M A (if (["enumerate","zip","dict_itemiterator","dict_reverseitemiterator","odict_iterator","itertools.zip_longest","itertools.pairwise"].contains n && vs[0]? == some (rawInt _))=true then _ else _) Q E s
       rw [if_neg (by intro h; rw [hn,Bool.false_and] at h; cases h)]
       exact wpAny_pure hQ))
def Itl (K:PySem.W.Frag) (a:Addr):It:=
 ⟨fun i H=>∃ xs x,SqL K H a xs/\xs[i]? = some x,fun i H x H'=>H'=H/\∀ xs,SqL K H a xs->xs[i]? = some x,fun i H=>∃ xs,SqL K H a xs/\xs.length<=i⟩
def Itt (K:PySem.W.Frag) (a:Addr):It:=
 ⟨fun i H=>∃ xs x,SqT K H a xs/\xs[i]? = some x,fun i H x H'=>H'=H/\∀ xs,SqT K H a xs->xs[i]? = some x,fun i H=>∃ xs,SqT K H a xs/\xs.length<=i⟩
def Itr (lo:Int) (n:Nat):It:=⟨fun i _=>i < n,fun i H x H'=>H'=H/\x=.int (lo + i),fun i _=>n<=i⟩
theorem turn_list {P:Program} {w:World} {K:PySem.W.Frag} {tg:Expr} (a it:Addr):Turn P w K tg (Itl K a) [it] it (fun i h=>h.IsListIter it a i) where
 mem:=by simp
 obj:=fun i h st b hb=>by
  have e:b=it:=by simpa using hb
  subst e
  obtain ⟨o,e,c,d⟩:=st
  exact ⟨o,e,fun v z=>by rw [d] at z; cases z⟩
 keep:=fun i h h' st k=>st.at fun o e=>k it (by simp) o e
 item:=by
  intro X hP hw hK hc i pins s σ H E I hf st hg
  subst hP hw hK
  obtain ⟨xs,x,hq,hx⟩:=hg
  obtain ⟨its,rv,p,hz⟩:=I.list hq
  obtain ⟨u,hu,ru⟩:=rv.get hx
  obtain ⟨f0,f1,f2,f3,f4,f5⟩:=hf it (by simp)
  refine wpAny_pyNext_list_item st p.isList (x:=u) (by simpa using hu) fun h' st' sb=>?_
  have I1:Inv X pins σ H { s with heap:=h' }:=I.turned (t':=s.toks) (fun b o hb e=>(sb.2 b hb).trans e) f0 f1 f3 f4 f5
  obtain ⟨o,e,c,d⟩:=id st'
  exact ⟨u,rfl,go_of (s:={ s with heap:=h' }) e c d (by decide) ⟨x,H,I1,ru,⟨rfl,fun ys hy=>by rw [I.list_inj hy hq]; exact hx⟩,st',fun b hb=>(hf b hb).1⟩⟩
 done:=by
  intro X hP hw hK hc i pins s σ H E I hf st hg
  subst hP hw hK
  obtain ⟨xs,hq,hx⟩:=hg
  obtain ⟨its,rv,p,hz⟩:=I.list hq
  obtain ⟨f0,f1,f2,f3,f4,f5⟩:=hf it (by simp)
  have hl:=rv.length
  exact wpAny_pyNext_list_end (I.ok.hd hc) st p.isList (by simp; (first|lia|omega)) fun h' eb=>⟨rfl,I.turned (t':=s.toks) (fun b o hb e=>eb b o hb e) f0 f1 f3 f4 f5⟩
 self:=fun _ _ _ _ _ st h=>wpAny_pyIter_listiter st h
theorem turn_tuple {P:Program} {w:World} {K:PySem.W.Frag} {tg:Expr} (a it:Addr):Turn P w K tg (Itt K a) [it] it (fun i h=>h.IsTupleIter it a i) where
 mem:=by simp
 obj:=fun i h st b hb=>by
  have e:b=it:=by simpa using hb
  subst e
  obtain ⟨o,e,c,d⟩:=st
  exact ⟨o,e,fun v z=>by rw [d] at z; cases z⟩
 keep:=fun i h h' st k=>st.at fun o e=>k it (by simp) o e
 item:=by
  intro X hP hw hK hc i pins s σ H E I hf st hg
  subst hP hw hK
  obtain ⟨xs,x,hq,hx⟩:=hg
  obtain ⟨its,rv,p,hz⟩:=I.tuple hq
  obtain ⟨u,hu,ru⟩:=rv.get hx
  obtain ⟨f0,f1,f2,f3,f4,f5⟩:=hf it (by simp)
  refine wpAny_pyNext_tuple_item st (show s.heap.IsTuple a its.toArray from p) (x:=u) (by simpa using hu) fun h' st' sb=>?_
  have I1:Inv X pins σ H { s with heap:=h' }:=I.turned (t':=s.toks) (fun b o hb e=>(sb.2 b hb).trans e) f0 f1 f3 f4 f5
  obtain ⟨o,e,c,d⟩:=id st'
  exact ⟨u,rfl,go_of (s:={ s with heap:=h' }) e c d (by decide) ⟨x,H,I1,ru,⟨rfl,fun ys hy=>by rw [I.tuple_inj hy hq]; exact hx⟩,st',fun b hb=>(hf b hb).1⟩⟩
 done:=by
  intro X hP hw hK hc i pins s σ H E I hf st hg
  subst hP hw hK
  obtain ⟨xs,hq,hx⟩:=hg
  obtain ⟨its,rv,p,hz⟩:=I.tuple hq
  obtain ⟨f0,f1,f2,f3,f4,f5⟩:=hf it (by simp)
  have hl:=rv.length
  exact wpAny_pyNext_tuple_end (I.ok.hd hc) st (show s.heap.IsTuple a its.toArray from p) (by simp; (first|lia|omega)) fun h' eb=>⟨rfl,I.turned (t':=s.toks) (fun b o hb e=>eb b o hb e) f0 f1 f3 f4 f5⟩
 self:=fun _ _ _ _ _ st h=>wpAny_pyIter_tupleiter st h
theorem turn_range {P:Program} {w:World} {K:PySem.W.Frag} {tg:Expr} (it:Addr) (lo:Int) (n:Nat):Turn P w K tg (Itr lo n) [it] it (fun i h=>IsRangeIter h it (lo + (i:Nat) * 1) ((n:Int) - (i:Nat)) 1) where
 mem:=by simp
 obj:=fun i h st b hb=>by
  have e:b=it:=by simpa using hb
  subst e
  exact ⟨_,st,fun v z=>by
   have z':Data.fields _=Data.cell v:=z
   cases z'⟩
 keep:=fun i h h' st k=>k it (by simp) _ st
 item:=by
  intro X hP hw hK hc i pins s σ H E I hf st hg
  subst hP hw hK
  obtain ⟨f0,f1,f2,f3,f4,f5⟩:=hf it (by simp)
  have W:=Walks.range (prog:=X.prog) (w:=X.w) (I.ok.hd hc) it lo 1 n
  refine W.item i s _ _ hg st fun v h' tk hv st' kk=>?_
  obtain ⟨t,rfl⟩:=hv
  have I1:Inv X pins σ H { s with heap:=h',toks:=tk }:=I.turned (fun b o hb e=>kk b o (by simpa using hb) e) f0 f1 f3 f4 f5
  refine ⟨_,rfl,go_of (s:={ s with heap:=h',toks:=tk }) (n:="range_iterator") st' rfl rfl (by decide) ⟨.int (lo + i),H,I1,⟨t,?_⟩,⟨rfl,rfl⟩,st',fun b hb=>(hf b hb).1⟩⟩
  rw [Int.mul_one]
 done:=by
  intro X hP hw hK hc i pins s σ H E I hf st hg
  subst hP hw hK
  obtain ⟨f0,f1,f2,f3,f4,f5⟩:=hf it (by simp)
  exact wpAny_pyNext_range_end (I.ok.hd hc) st (by have:n<=i:=hg; (first|lia|omega)) fun h' eb=>⟨rfl,I.turned (t':=s.toks) (fun b o hb e=>eb b o hb e) f0 f1 f3 f4 f5⟩
 self:=fun _ _ _ _ _ st h=>wpAny_pyIter_rangeiter st h
end L2
namespace L2
open PySem PySem.Spec PyProof.Rows
section
variable {X:Cx} {tg:Expr}
def iList (K:PySem.W.Frag) (tl:TE):TI:=fun σ H R=>tl σ H fun x H1=>∃ a,x=.ref a/\(∃ xs,SqL K H1 a xs)/\R (Itl K a) H1
def iTup (K:PySem.W.Frag) (tl:TE):TI:=fun σ H R=>tl σ H fun x H1=>∃ a,x=.ref a/\(∃ xs,SqT K H1 a xs)/\R (Itt K a) H1
theorem pi_list {l:Expr} {tl:TE} (hl:PE X l tl):PI X tg l (iList X.K tl):=by
 intro pins s σ H R I h
 refine thn (hl pins s σ H _ I h) fun v s1 ⟨x,H1,I1,r1,q1⟩=>?_
 obtain ⟨a,e,⟨xs,hq⟩,q⟩:=q1
 subst e
 cases r1
 obtain ⟨its,rv,p,hz⟩:=I1.list hq
 refine wpAny_pyIter_list p.isList ?_
 refine ⟨s1.heap.objs.size,[s1.heap.objs.size],_,_,H1,rfl,I1.kept (t':=s1.toks) fun b o e=>Heap.get?_push_of_some _ e,turn_list a _,⟨_,Heap.get?_push_size _ rfl,rfl,rfl⟩,fun b hb=>?_,q⟩
 have e:b=s1.heap.objs.size:=by simpa using hb
 subst e
 exact I1.fpOk (Nat.le_refl _) (I1.hok.fresh (Nat.le_refl _))
theorem pi_tup {l:Expr} {tl:TE} (hl:PE X l tl):PI X tg l (iTup X.K tl):=by
 intro pins s σ H R I h
 refine thn (hl pins s σ H _ I h) fun v s1 ⟨x,H1,I1,r1,q1⟩=>?_
 obtain ⟨a,e,⟨xs,hq⟩,q⟩:=q1
 subst e
 cases r1
 obtain ⟨its,rv,p,hz⟩:=I1.tuple hq
 refine wpAny_pyIter_tuple (show s1.heap.IsTuple a its.toArray from p) ?_
 refine ⟨s1.heap.objs.size,[s1.heap.objs.size],_,_,H1,rfl,I1.kept (t':=s1.toks) fun b o e=>Heap.get?_push_of_some _ e,turn_tuple a _,⟨_,Heap.get?_push_size _ rfl,rfl,rfl⟩,fun b hb=>?_,q⟩
 have e:b=s1.heap.objs.size:=by simpa using hb
 subst e
 exact I1.fpOk (Nat.le_refl _) (I1.hok.fresh (Nat.le_refl _))
theorem range_it {pins:List (Addr × Obj)} {σ:St} {H:Hp} {s:Shared} {R:It->Hp->Prop} {E:Value->Shared->Prop} {lo hi:Int} {t u v:Tok} {tk:Nat} (I:Inv X pins σ H s) (h1:-(2 ^ 62)<=lo) (h2:lo < 2 ^ 62) (h3:-(2 ^ 62)<=hi) (h4:hi < 2 ^ 62)
  (q:R (Itr lo (hi - lo).toNat) H):wpAny (model X.prog X.w) X.A (pyIter (.ref s.heap.objs.size)) (PIE X pins σ tg R) E { s with heap:=s.heap.push { cls:=.type "range",data:=.fields #[.int lo t,.int hi u,.int 1 v] },toks:=tk }:=by
 refine wpAny_pyIter_range (IsRange.new ..) (small_one h1 h2 h3 h4) ?_
 have I1:Inv X pins σ H { s with heap:=s.heap.push { cls:=.type "range",data:=.fields #[.int lo t,.int hi u,.int 1 v] },toks:=tk }:=I.kept fun b o e=>Heap.get?_push_of_some _ e
 refine ⟨(s.heap.push { cls:=.type "range",data:=.fields #[.int lo t,.int hi u,.int 1 v] }).objs.size,[(s.heap.push { cls:=.type "range",data:=.fields #[.int lo t,.int hi u,.int 1 v] }).objs.size],_,_,H,rfl,
  I1.kept (t':=tk) fun b o e=>Heap.get?_push_of_some _ e,turn_range _ lo (hi - lo).toNat,?_,fun b hb=>?_,q⟩
 ·have e1:lo + ((0:Nat):Int) * 1=lo:=by simp
  have e2:(((hi - lo).toNat:Nat):Int) - ((0:Nat):Int)=Builtin.Range.rangeSize lo hi 1:=by rw [rangeSize_one]; split <;> (first|lia|omega)
  show IsRangeIter _ _ (lo + ((0:Nat):Int) * 1) ((((hi - lo).toNat:Nat):Int) - ((0:Nat):Int)) 1
  rw [e1,e2]
  exact Heap.get?_push_size _ rfl
 ·have e:b=(s.heap.push { cls:=.type "range",data:=.fields #[.int lo t,.int hi u,.int 1 v] }).objs.size:=by simpa using hb
  subst e
  exact I1.fpOk (Nat.le_refl _) (I1.hok.fresh (Nat.le_refl _))
def iRng1 (ta:TA):TI:=fun σ H R=>ta σ H fun vs H1=>∃ j:Int,vs=[.int j]/\-(2 ^ 62)<=j/\j < 2 ^ 62/\R (Itr 0 j.toNat) H1
def iRng2 (ta:TA):TI:=fun σ H R=>ta σ H fun vs H1=>∃ i j:Int,vs=[.int i,.int j]/\(-(2 ^ 62)<=i/\i < 2 ^ 62/\-(2 ^ 62)<=j/\j < 2 ^ 62)/\R (Itr i (j - i).toNat) H1
theorem pi_range1 {a:Expr} {ta:TA} {p pos:Pos} (hg:Gl X "range") (hm:X.mg "range"=none) (ha:PA X [a] ta) (hs:starEach [a] X.env=[(false,eval a X.env)]:=by rfl):PI X tg (.Call (.Name "range" p) [a] [] pos) (iRng1 ta):=by
 intro pins s σ H R I h
 refine Call_ (ld_blt I hg hm boot_range (PyProof.Rows.callWith_type1 (thn (ha pos pins s σ H _ I h) fun us s1 ⟨vs,H1,I1,r1,q1⟩=>?_) hs rfl))
 obtain ⟨j,e,q1,q2,q⟩:=q1
 subst e
 cases r1 with
 | cons r rr=>
  cases rr
  obtain ⟨t,rfl⟩:=r
  exact call_range_1 (range_it I1 (by (first|lia|omega)) (by (first|lia|omega)) q1 q2 (by simpa using q))
theorem pi_range2 {a b:Expr} {ta:TA} {p pos:Pos} (hg:Gl X "range") (hm:X.mg "range"=none) (ha:PA X [a,b] ta) (hs:starEach [a,b] X.env=[(false,eval a X.env),(false,eval b X.env)]:=by rfl) (hs2:starEach [b] X.env=[(false,eval b X.env)]:=by rfl) :
  PI X tg (.Call (.Name "range" p) [a,b] [] pos) (iRng2 ta):=by
 intro pins s σ H R I h
 refine Call_ (ld_blt I hg hm boot_range (PyProof.Rows.callWith_type1 (thn (ha pos pins s σ H _ I h) fun us s1 ⟨vs,H1,I1,r1,q1⟩=>?_) (by rw [hs,hs2]) (by rw [hs2]; rfl)))
 obtain ⟨i,j,e,⟨q1,q2,q3,q4⟩,q⟩:=q1
 subst e
 cases r1 with
 | cons r rr=>
  cases rr with
  | cons r' rr=>
   cases rr
   obtain ⟨t,rfl⟩:=r
   obtain ⟨t',rfl⟩:=r'
   exact call_range_2 (range_it I1 q1 q2 q3 q4 q)
def tFor (wi:TI) (g:TG) (tb:TS):TS:=fun D σ H=>wi σ H fun J H1=>∃ W:Nat->Nat->St->Hp->Prop,(∃ m,W 0 m σ H1)/\∀ i m σ H,W i m σ H ->
 (J.stop i H/\D.nx σ H)\/(J.go i H/\∃ N:St->Hp->Prop,(∀ σ' H',N σ' H'->∃ m',m' < m/\W (i + 1) m' σ' H')/\∀ x H',J.yld i H x H'->g x σ H' fun σ2 H2=>tb { D with nx:=N,ct:=N,bk:=D.nx } σ2 H2)
def pinsAt (fp:List Addr) (h:Heap):List (Addr × Obj):=fp.filterMap fun b=>(h.get? b).map fun o=>(b,o)
theorem mem_pinsAt {fp:List Addr} {h:Heap} {b:Addr} {o:Obj} (hb:b ∈ fp) (e:h.get? b=some o):(b,o) ∈ pinsAt fp h:=List.mem_filterMap.mpr ⟨b,hb,by rw [e]; rfl⟩
theorem of_pinsAt {fp:List Addr} {h:Heap} {p:Addr × Obj} (hp:p ∈ pinsAt fp h):p.1 ∈ fp/\h.get? p.1=some p.2:=by
 obtain ⟨b,hb,e⟩:=List.mem_filterMap.mp hp
 cases q:h.get? b with
 | none=>rw [q] at e; cases e
 | some o=>
  rw [q] at e
  have e':(b,o)=p:=Option.some.inj e
  subst e'
  exact ⟨hb,q⟩
theorem Inv.pinned {pins:List (Addr × Obj)} {σ:St} {H:Hp} {s:Shared} {fp:List Addr} (I:Inv X pins σ H s) (hf:∀ b ∈ fp,FpOk X pins H b) (ho:∀ b ∈ fp,∃ o,s.heap.get? b=some o/\∀ v,o.data ≠ .cell v):Inv X (pins ++ pinsAt fp s.heap) σ H s:=
 I.pins_of fun p hp=>(List.mem_append.mp hp).elim (fun z=>I.pin p (List.mem_append_right _ z)) fun z=>by
  obtain ⟨hb,e⟩:=of_pinsAt z
  obtain ⟨f0,f1,f2,_⟩:=hf p.1 hb
  obtain ⟨o,e',d⟩:=ho p.1 hb
  rw [e] at e'; cases e'
  exact ⟨e,f0,f1,f2,d⟩
theorem Inv.unpinned {pins pl:List (Addr × Obj)} {σ:St} {H:Hp} {s:Shared} (I:Inv X (pins ++ pl) σ H s):Inv X pins σ H s:=I.pins_of fun p hp=>I.pin p (List.mem_append_right _ (List.mem_append_left _ hp))
theorem ps_for {iter:Expr} {body:List Stmt} {wi:TI} {g:TG} {tb:TS} {pos:Pos} (hp:PassesOwn (model X.prog X.w) X.A X.env X.xe) (hc:X.calm=true) (hi:PI X tg iter wi) (hg:PG X tg g) (hb:PSs X body tb)
  (hs:∀ x,foldedSetIterable iter X.env x=pure x:=by intro _; rfl):PS X (.For tg iter body [] pos) (tFor wi g tb):=by
 intro pins s σ H D I h
 refine wpAny_For (thn (hi pins s σ H _ I h) fun v s1 h1=>thn h1 fun itv s2 h2=>?_) hs
 obtain ⟨it,fp,tn,J,H2,e,I2,T,st2,f2,W,⟨m0,w0⟩,turn⟩:=h2
 subst e
 have stat:∀ {H':Hp},(∀ b ∈ fp,H' b=none)->∀ b ∈ fp,FpOk X pins H' b:=fun hn b hb=>⟨hn b hb,(f2 b hb).2⟩
 refine codeAny_forLoop_any (fun n s'=>∃ i σ' H',Inv X pins σ' H' s'/\tn i s'.heap/\(∀ b ∈ fp,H' b=none)/\W i n σ' H') ?_ m0 ⟨0,σ,H2,I2,st2,fun b hb=>(f2 b hb).1,w0⟩
 rintro n s3 ⟨i,σ3,H3,I3,st3,fr3,w3⟩
 rcases turn i n σ3 H3 w3 with ⟨stop,qn⟩ | ⟨go,N,hN,step⟩
 ·refine wpAny_passesOwn hp (thn (T.done X rfl rfl rfl hc i pins s3 σ3 H3 X.xe I3 (stat fr3) st3 stop) fun r s4 ⟨hr,I4⟩=>?_)
  subst hr
  exact wpAny_execs_nil ⟨σ3,H3,I4,qn⟩
 ·refine wpAny_passesOwn hp (thn (T.item X rfl rfl rfl hc i pins s3 σ3 H3 X.xe I3 (stat fr3) st3 go) fun r s4 ⟨u,hr,h4⟩=>?_)
  subst hr
  refine wpAny_passesOwn hp (thn h4 fun _ s5 ⟨x,H5,I5,r5,y5,st5,fr5⟩=>?_)
  have I5':=I5.pinned (stat fr5) (T.obj _ _ st5)
  refine wpAny_passesOwn hp (thn (hg _ s5 σ3 H5 x u _ I5' r5 (step x H5 y5)) fun _ s6 ⟨σ6,H6,I6,q6⟩=>?_)
  refine wpAny_passesOwn hp (thn (hb _ s6 σ6 H6 _ I6 q6) fun f s7 q7=>?_)
  have again:∀ {σ7:St} {H7:Hp},Inv X (pins ++ pinsAt fp s5.heap) σ7 H7 s7->N σ7 H7->∃ m,m < n/\∃ i σ' H',Inv X pins σ' H' s7/\tn i s7.heap/\(∀ b ∈ fp,H' b=none)/\W i m σ' H':=fun {σ7 H7} I7 n7=>by
   obtain ⟨m',hm,w7⟩:=hN σ7 H7 n7
   refine ⟨m',hm,i + 1,σ7,H7,I7.unpinned,T.keep _ _ _ st5 fun b hb o e=>(I7.pin (b,o) (List.mem_append_right _ (List.mem_append_right _ (mem_pinsAt hb e)))).1,fun b hb=>?_,w7⟩
   obtain ⟨o,e,d⟩:=T.obj _ _ st5 b hb
   exact (I7.pin (b,o) (List.mem_append_right _ (List.mem_append_right _ (mem_pinsAt hb e)))).2.1
  cases f with
  | next=>obtain ⟨σ7,H7,I7,n7⟩:=q7; exact again I7 n7
  | cont=>obtain ⟨σ7,H7,I7,n7⟩:=q7; exact again I7 n7
  | brk=>obtain ⟨σ7,H7,I7,q7⟩:=q7; exact ⟨σ7,H7,I7.unpinned,q7⟩
  | ret v=>obtain ⟨x7,σ7,H7,I7,r7,q7⟩:=q7; exact ⟨x7,σ7,H7,I7.unpinned,r7,q7⟩
end
theorem for_list {K:PySem.W.Frag} {a:Addr} {xs:List V} {g:TG} {tb:TS} {D:Ends} {σ:St} {H:Hp} (Pv:Nat->St->Hp->Prop) (h0:Pv 0 σ H) (hl:∀ i σ H,i<=xs.length->Pv i σ H->SqL K H a xs)
  (hs:∀ i x σ H,xs[i]? = some x->Pv i σ H->g x σ H fun σ2 H2=>tb { D with nx:=Pv (i + 1),ct:=Pv (i + 1),bk:=D.nx } σ2 H2) (hd:∀ σ H,Pv xs.length σ H->D.nx σ H) :
  ∃ W:Nat->Nat->St->Hp->Prop,(∃ m,W 0 m σ H)/\∀ i m σ H,W i m σ H ->
   ((Itl K a).stop i H/\D.nx σ H)\/((Itl K a).go i H/\∃ N:St->Hp->Prop,(∀ σ' H',N σ' H'->∃ m',m' < m/\W (i + 1) m' σ' H')/\∀ x H',(Itl K a).yld i H x H'->g x σ H' fun σ2 H2=>tb { D with nx:=N,ct:=N,bk:=D.nx } σ2 H2):=by
 refine ⟨fun i m σ H=>m=xs.length - i/\i<=xs.length/\Pv i σ H,⟨xs.length,by simp,Nat.zero_le _,h0⟩,?_⟩
 rintro i m σ H ⟨rfl,hi,p⟩
 have q:=hl i σ H hi p
 by_cases hlt:i < xs.length
 ·refine .inr ⟨⟨xs,xs[i],q,by simp [hlt]⟩,Pv (i + 1),fun σ' H' p'=>⟨xs.length - (i + 1),by (first|lia|omega),rfl,hlt,p'⟩,fun x H' y=>?_⟩
  obtain ⟨e,y⟩:=y
  subst e
  exact hs i x σ _ (y xs q) p
 ·have e:i=xs.length:=by (first|lia|omega)
  subst e
  exact .inl ⟨⟨xs,q,Nat.le_refl _⟩,hd σ H p⟩
theorem for_tup {K:PySem.W.Frag} {a:Addr} {xs:List V} {g:TG} {tb:TS} {D:Ends} {σ:St} {H:Hp} (Pv:Nat->St->Hp->Prop) (h0:Pv 0 σ H) (hl:∀ i σ H,i<=xs.length->Pv i σ H->SqT K H a xs)
  (hs:∀ i x σ H,xs[i]? = some x->Pv i σ H->g x σ H fun σ2 H2=>tb { D with nx:=Pv (i + 1),ct:=Pv (i + 1),bk:=D.nx } σ2 H2) (hd:∀ σ H,Pv xs.length σ H->D.nx σ H) :
  ∃ W:Nat->Nat->St->Hp->Prop,(∃ m,W 0 m σ H)/\∀ i m σ H,W i m σ H ->
   ((Itt K a).stop i H/\D.nx σ H)\/((Itt K a).go i H/\∃ N:St->Hp->Prop,(∀ σ' H',N σ' H'->∃ m',m' < m/\W (i + 1) m' σ' H')/\∀ x H',(Itt K a).yld i H x H'->g x σ H' fun σ2 H2=>tb { D with nx:=N,ct:=N,bk:=D.nx } σ2 H2):=by
 refine ⟨fun i m σ H=>m=xs.length - i/\i<=xs.length/\Pv i σ H,⟨xs.length,by simp,Nat.zero_le _,h0⟩,?_⟩
 rintro i m σ H ⟨rfl,hi,p⟩
 have q:=hl i σ H hi p
 by_cases hlt:i < xs.length
 ·refine .inr ⟨⟨xs,xs[i],q,by simp [hlt]⟩,Pv (i + 1),fun σ' H' p'=>⟨xs.length - (i + 1),by (first|lia|omega),rfl,hlt,p'⟩,fun x H' y=>?_⟩
  obtain ⟨e,y⟩:=y
  subst e
  exact hs i x σ _ (y xs q) p
 ·have e:i=xs.length:=by (first|lia|omega)
  subst e
  exact .inl ⟨⟨xs,q,Nat.le_refl _⟩,hd σ H p⟩
theorem for_range {lo:Int} {n:Nat} {g:TG} {tb:TS} {D:Ends} {σ:St} {H:Hp} (Pv:Nat->St->Hp->Prop) (h0:Pv 0 σ H)
  (hs:∀ i σ H,i < n->Pv i σ H->g (.int (lo + i)) σ H fun σ2 H2=>tb { D with nx:=Pv (i + 1),ct:=Pv (i + 1),bk:=D.nx } σ2 H2) (hd:∀ σ H,Pv n σ H->D.nx σ H) :
  ∃ W:Nat->Nat->St->Hp->Prop,(∃ m,W 0 m σ H)/\∀ i m σ H,W i m σ H ->
   ((Itr lo n).stop i H/\D.nx σ H)\/((Itr lo n).go i H/\∃ N:St->Hp->Prop,(∀ σ' H',N σ' H'->∃ m',m' < m/\W (i + 1) m' σ' H')/\∀ x H',(Itr lo n).yld i H x H'->g x σ H' fun σ2 H2=>tb { D with nx:=N,ct:=N,bk:=D.nx } σ2 H2):=by
 refine ⟨fun i m σ H=>m=n - i/\i<=n/\Pv i σ H,⟨n,by simp,Nat.zero_le _,h0⟩,?_⟩
 rintro i m σ H ⟨rfl,hi,p⟩
 by_cases hlt:i < n
 ·refine .inr ⟨hlt,Pv (i + 1),fun σ' H' p'=>⟨n - (i + 1),by (first|lia|omega),rfl,hlt,p'⟩,fun x H' y=>?_⟩
  obtain ⟨e,y⟩:=y
  subst e y
  exact hs i σ _ hlt p
 ·have e:i=n:=by (first|lia|omega)
  subst e
  exact .inl ⟨Nat.le_refl _,hd σ H p⟩
end L2
namespace L2
open PySem PySem.Spec PyProof.Rows
abbrev R2:=V->V->Hp->VK->Prop
def OpR (X:Cx) (f:Value->Value->Sem Value) (r:R2):Prop:=
 ∀ (pins:List (Addr × Obj)) (s:Shared) (σ:St) (H:Hp) (x y:V) (v u:Value) (Q:VK),Inv X pins σ H s->RelV x v->RelV y u->r x y H Q ->
  wpAny (model X.prog X.w) X.A (f v u) (EP X pins σ Q) X.xe s
def UnR (X:Cx) (f:Value->Sem Value) (r:V->Hp->VK->Prop):Prop:=
 ∀ (pins:List (Addr × Obj)) (s:Shared) (σ:St) (H:Hp) (x:V) (v:Value) (Q:VK),Inv X pins σ H s->RelV x v->r x H Q ->
  wpAny (model X.prog X.w) X.A (f v) (EP X pins σ Q) X.xe s
def CallR (X:Cx) (f:Value) (r:List V->Hp->VK->Prop):Prop:=
 ∀ (pins:List (Addr × Obj)) (s:Shared) (σ:St) (H:Hp) (xs:List V) (us:List Value) (Q:VK),Inv X pins σ H s->Vals xs us->r xs H Q ->
  wpAny (model X.prog X.w) X.A (call f us) (EP X pins σ Q) X.xe s
def TruR (X:Cx) (r:V->Hp->(Bool->Hp->Prop)->Prop):Prop:=
 ∀ (pins:List (Addr × Obj)) (s:Shared) (σ:St) (H:Hp) (x:V) (v:Value) (Q:Bool->Hp->Prop),Inv X pins σ H s->RelV x v->r x H Q ->
  wpAny (model X.prog X.w) X.A (truthy v) (TP X pins σ Q) X.xe s
def tOp (r:R2) (ta tb:TE):TE:=fun σ H Q=>ta σ H fun x H1=>tb σ H1 fun y H2=>r x y H2 Q
def tUn (r:V->Hp->VK->Prop) (ta:TE):TE:=fun σ H Q=>ta σ H fun x H1=>r x H1 Q
def rI (C:Int->Int->Prop) (g:Int->Int->V):R2:=fun x y H Q=>∃ i j,x=.int i/\y=.int j/\C i j/\Q (g i j) H
def rI0 (g:Int->Int->V):R2:=fun x y H Q=>∃ i j,x=.int i/\y=.int j/\Q (g i j) H
def rU (g:Int->V):V->Hp->VK->Prop:=fun x H Q=>∃ i,x=.int i/\Q (g i) H
section
variable {X:Cx} {a b c:Expr} {ta tb tc:TE} {pos:Pos}
theorem binT (ha:PE X a ta) (hb:PE X b tb) {pins:List (Addr × Obj)} {s:Shared} {σ:St} {H:Hp} {R:V->V->Hp->Prop} (I:Inv X pins σ H s)
  (h:ta σ H fun x H1=>tb σ H1 fun y H2=>R x y H2) {Q:Value->Shared->Prop} {f:Value->Value->Sem Value}
  (hf:∀ v u s2 x y H2,Inv X pins σ H2 s2->RelV x v->RelV y u->R x y H2->wpAny (model X.prog X.w) X.A (f v u) Q X.xe s2) :
  wpAny (model X.prog X.w) X.A (eval a X.env) (fun v s₁=>wpAny (model X.prog X.w) X.A (eval b X.env) (fun u s₂=>wpAny (model X.prog X.w) X.A (f v u) Q X.xe s₂) X.xe s₁) X.xe s:=by
 refine thn (ha pins s σ H _ I h) fun v s1 ⟨x,H1,I1,r1,q1⟩=>?_
 refine thn (hb pins s1 σ H1 _ I1 q1) fun u s2 ⟨y,H2,I2,r2,q2⟩=>?_
 exact hf v u s2 x y H2 I2 r1 r2 q2
theorem pe_op {op:Operator} {r:R2} (ho:OpR X (binaryOp op) r) (ha:PE X a ta) (hb:PE X b tb):PE X (.BinOp a op b pos) (tOp r ta tb):=by
 intro pins s σ H Q I h
 exact wpAny_BinOp (binT ha hb I h fun v u s2 x y H2 I2 rx ry q=>ho pins s2 σ H2 x y v u Q I2 rx ry q)
theorem pe_un {op:UnaryOp} {r:V->Hp->VK->Prop} (ho:UnR X (unaryOp op) r) (ha:PE X a ta):PE X (.UnaryOp op a pos) (tUn r ta):=by
 intro pins s σ H Q I h
 exact UnaryOp_ (thn (ha pins s σ H _ I h) fun v s1 ⟨x,H1,I1,r1,q1⟩=>ho pins s1 σ H1 x v Q I1 r1 q1)
theorem opI {f:Value->Value->Sem Value} {C:Int->Int->Prop} {g:Int->Int->Int}
  (rule:∀ (i j:Int) (t u:Tok) (s:Shared) (Q:Value->Shared->Prop) (E:Value->Shared->Prop),C i j->Q (.int (g i j) s.toks) { s with toks:=s.toks + 1 }->wpAny (model X.prog X.w) X.A (f (.int i t) (.int j u)) Q E s) :
  OpR X f (rI C fun i j=>.int (g i j)):=by
 intro pins s σ H x y v u Q I rx ry h
 obtain ⟨i,j,rfl,rfl,hc,q⟩:=h
 obtain ⟨t,rfl⟩:=rx
 obtain ⟨t',rfl⟩:=ry
 exact rule i j t t' s _ _ hc ⟨.int (g i j),H,I.tok _,⟨_,rfl⟩,q⟩
theorem opI0 {f:Value->Value->Sem Value} {g:Int->Int->Int}
  (rule:∀ (i j:Int) (t u:Tok) (s:Shared) (Q:Value->Shared->Prop) (E:Value->Shared->Prop),Q (.int (g i j) s.toks) { s with toks:=s.toks + 1 }->wpAny (model X.prog X.w) X.A (f (.int i t) (.int j u)) Q E s) :
  OpR X f (rI0 fun i j=>.int (g i j)):=by
 intro pins s σ H x y v u Q I rx ry h
 obtain ⟨i,j,rfl,rfl,q⟩:=h
 obtain ⟨t,rfl⟩:=rx
 obtain ⟨t',rfl⟩:=ry
 exact rule i j t t' s _ _ ⟨.int (g i j),H,I.tok _,⟨_,rfl⟩,q⟩
theorem opB0 {f:Value->Value->Sem Value} {g:Int->Int->Bool}
  (rule:∀ (i j:Int) (t u:Tok) (s:Shared) (Q:Value->Shared->Prop) (E:Value->Shared->Prop),Q (.bool (g i j)) s->wpAny (model X.prog X.w) X.A (f (.int i t) (.int j u)) Q E s) :
  OpR X f (rI0 fun i j=>.bl (g i j)):=by
 intro pins s σ H x y v u Q I rx ry h
 obtain ⟨i,j,rfl,rfl,q⟩:=h
 obtain ⟨t,rfl⟩:=rx
 obtain ⟨t',rfl⟩:=ry
 exact rule i j t t' s _ _ ⟨.bl (g i j),H,I,rfl,q⟩
def CDiv (i j:Int):Prop:=0 < j/\j < 1073741824
def CPow (i j:Int):Prop:=0<=j/\j<=1000000/\i.natAbs < 2 ^ 64
def CMul (i j:Int):Prop:=(-(2 ^ 64) < i/\i < 2 ^ 64)\/(-(2 ^ 64) < j/\j < 2 ^ 64)
theorem CMul.ok {i j:Int} (h:CMul i j):IntMulOk i j:=by
 rcases h with ⟨h1,h2⟩ | ⟨h1,h2⟩
 ·exact .of_left (intBits_le_64 h1 h2)
 ·exact .of_right (intBits_le_64 h1 h2)
theorem op_add:OpR X (binaryOp .Add) (rI0 fun i j=>.int (i + j)):=opI0 fun _ _ _ _ _ _ _ q=>add_int q
theorem op_sub:OpR X (binaryOp .Sub) (rI0 fun i j=>.int (i - j)):=opI0 fun _ _ _ _ _ _ _ q=>sub_int q
theorem op_mul:OpR X (binaryOp .Mult) (rI CMul fun i j=>.int (i * j)):=opI fun _ _ _ _ _ _ _ hc q=>mul_int q hc.ok
theorem op_fdiv:OpR X (binaryOp .FloorDiv) (rI CDiv fun i j=>.int (i / j)):=opI fun i j _ _ _ _ _ hc q=>by
 have h1:(0:Int) < j:=hc.1
 have h2:j < 1073741824:=hc.2
 exact floordiv_int (by (first|lia|omega)) (by rw [Int.fdiv_eq_ediv_of_nonneg i (by (first|lia|omega))]; exact q) (.inl (PyProof.noPylong_small (by (first|lia|omega))))
theorem op_mod:OpR X (binaryOp .Mod) (rI (fun _ j=>0 < j) fun i j=>.int (i % j)):=opI fun i j _ _ _ _ _ hc q=>by
 have h1:(0:Int) < j:=hc
 exact mod_int' (by (first|lia|omega)) (by rw [Int.fmod_eq_emod_of_nonneg i (by (first|lia|omega))]; exact q)
theorem op_pow:OpR X (binaryOp .Pow) (rI CPow fun i j=>.int (i ^ j.toNat)):=opI fun _ _ _ _ _ _ _ hc q=>pow_int_small hc.1 hc.2.1 hc.2.2 q
theorem unI {f:Value->Sem Value} {g:Int->Int}
  (rule:∀ (i:Int) (t:Tok) (s:Shared) (Q:Value->Shared->Prop) (E:Value->Shared->Prop),Q (.int (g i) s.toks) { s with toks:=s.toks + 1 }->wpAny (model X.prog X.w) X.A (f (.int i t)) Q E s) :
  UnR X f (rU fun i=>.int (g i)):=by
 intro pins s σ H x v Q I rx h
 obtain ⟨i,rfl,q⟩:=h
 obtain ⟨t,rfl⟩:=rx
 exact rule i t s _ _ ⟨.int (g i),H,I.tok _,⟨_,rfl⟩,q⟩
theorem un_neg:UnR X (unaryOp .USub) (rU fun i=>.int (-i)):=unI fun _ _ _ _ _ q=>neg_int q
end
def scal:V->V->Bool
 | .non,.non=>true | .non,.int _=>true | .int _,.non=>true | .non,.bl _=>true | .bl _,.non=>true | .non,.str _=>true | .str _,.non=>true
 | .int _,.int _=>true | .bl _,.bl _=>true | .str _,.str _=>true | .byt _,.byt _=>true
 | .int _,.str _=>true | .str _,.int _=>true | .bl _,.str _=>true | .str _,.bl _=>true
 | _,_=>false
def rEq:R2:=fun x y H Q=>scal x y=true/\Q (.bl (decide (x=y))) H
def rNe:R2:=fun x y H Q=>scal x y=true/\Q (.bl (!decide (x=y))) H
theorem dec_int {i j:Int}:decide (V.int i=V.int j)=(i == j):=by
 rw [Bool.eq_iff_iff]
 simp
theorem dec_bl {i j:Bool}:decide (V.bl i=V.bl j)=(i == j):=by
 rw [Bool.eq_iff_iff]
 simp
theorem dec_str {i j:Str}:decide (V.str i=V.str j)=(i == j):=by
 rw [Bool.eq_iff_iff]
 simp
theorem dec_byt {i j:Array UInt8}:decide (V.byt i=V.byt j)=(i.toList == j.toList):=by
 rw [Bool.eq_iff_iff]
 cases i
 cases j
 simp
section
variable {X:Cx} {a b c:Expr} {ta tb tc:TE} {pos:Pos}
theorem fin_bl {pins:List (Addr × Obj)} {σ:St} {H:Hp} {s:Shared} {Q:VK} {k k':Bool} (I:Inv X pins σ H s) (q:Q (.bl k) H) (e:k=k'):EP X pins σ Q (.bool k') s:=by
 subst e
 exact ⟨.bl k,H,I,rfl,q⟩
theorem op_eq:OpR X (compareOp .Eq) rEq:=by
 intro pins s σ H x y v u Q I rx ry h
 obtain ⟨hs,q⟩:=h
 cases x with
 | non=>
  cases rx
  cases y with
  | non=>cases ry; exact PySem.EqNone.eq_none_none (fin_bl I q (by simp))
  | bl j=>cases ry; exact PySem.EqNone.eq_none_bool (fin_bl I q (by simp))
  | int j=>obtain ⟨t',rfl⟩:=ry; exact PySem.EqNone.eq_none_int (fin_bl I q (by simp))
  | str j=>obtain ⟨t',rfl⟩:=ry; exact PySem.EqNone.eq_none_str (fin_bl I q (by simp))
  | _=>exact absurd (show false=true from hs) Bool.false_ne_true
 | bl i=>
  cases rx
  cases y with
  | non=>cases ry; exact PySem.EqNone.eq_bool_none (fin_bl I q (by simp))
  | bl j=>cases ry; exact eq_bool (fin_bl I q dec_bl)
  | str j=>obtain ⟨t',rfl⟩:=ry; exact PySem.EqMixed.eq_bool_str (fin_bl I q (by simp))
  | _=>exact absurd (show false=true from hs) Bool.false_ne_true
 | int i=>
  obtain ⟨t,rfl⟩:=rx
  cases y with
  | non=>cases ry; exact PySem.EqNone.eq_int_none (fin_bl I q (by simp))
  | int j=>obtain ⟨t',rfl⟩:=ry; exact eq_int (fin_bl I q dec_int)
  | str j=>obtain ⟨t',rfl⟩:=ry; exact PySem.EqMixed.eq_int_str (fin_bl I q (by simp))
  | _=>exact absurd (show false=true from hs) Bool.false_ne_true
 | str i=>
  obtain ⟨t,rfl⟩:=rx
  cases y with
  | non=>cases ry; exact PySem.EqNone.eq_str_none (fin_bl I q (by simp))
  | bl j=>cases ry; exact PySem.EqMixed.eq_str_bool (fin_bl I q (by simp))
  | int j=>obtain ⟨t',rfl⟩:=ry; exact PySem.EqMixed.eq_str_int (fin_bl I q (by simp))
  | str j=>obtain ⟨t',rfl⟩:=ry; exact eq_str (fin_bl I q dec_str)
  | _=>exact absurd (show false=true from hs) Bool.false_ne_true
 | byt i=>
  obtain ⟨t,rfl⟩:=rx
  cases y with
  | byt j=>obtain ⟨t',rfl⟩:=ry; exact PySem.W.eq_bytes (fin_bl I q dec_byt)
  | _=>exact absurd (show false=true from hs) Bool.false_ne_true
 | _=>cases y <;> exact absurd (show false=true from hs) Bool.false_ne_true
theorem op_ne:OpR X (compareOp .NotEq) rNe:=by
 intro pins s σ H x y v u Q I rx ry h
 obtain ⟨hs,q⟩:=h
 cases x with
 | non=>
  cases rx
  cases y with
  | non=>cases ry; exact PySem.EqNone.ne_none_none (fin_bl I q (by simp))
  | bl j=>cases ry; exact PySem.EqNone.ne_none_bool (fin_bl I q (by simp))
  | int j=>obtain ⟨t',rfl⟩:=ry; exact PySem.EqNone.ne_none_int (fin_bl I q (by simp))
  | str j=>obtain ⟨t',rfl⟩:=ry; exact PySem.EqNone.ne_none_str (fin_bl I q (by simp))
  | _=>exact absurd (show false=true from hs) Bool.false_ne_true
 | bl i=>
  cases rx
  cases y with
  | non=>cases ry; exact PySem.EqNone.ne_bool_none (fin_bl I q (by simp))
  | bl j=>cases ry; exact ne_bool (fin_bl I q (congrArg not dec_bl))
  | str j=>obtain ⟨t',rfl⟩:=ry; exact PySem.EqMixed.ne_bool_str (fin_bl I q (by simp))
  | _=>exact absurd (show false=true from hs) Bool.false_ne_true
 | int i=>
  obtain ⟨t,rfl⟩:=rx
  cases y with
  | non=>cases ry; exact PySem.EqNone.ne_int_none (fin_bl I q (by simp))
  | int j=>obtain ⟨t',rfl⟩:=ry; exact ne_int (fin_bl I q (congrArg not dec_int))
  | str j=>obtain ⟨t',rfl⟩:=ry; exact PySem.EqMixed.ne_int_str (fin_bl I q (by simp))
  | _=>exact absurd (show false=true from hs) Bool.false_ne_true
 | str i=>
  obtain ⟨t,rfl⟩:=rx
  cases y with
  | non=>cases ry; exact PySem.EqNone.ne_str_none (fin_bl I q (by simp))
  | bl j=>cases ry; exact PySem.EqMixed.ne_str_bool (fin_bl I q (by simp))
  | int j=>obtain ⟨t',rfl⟩:=ry; exact PySem.EqMixed.ne_str_int (fin_bl I q (by simp))
  | str j=>obtain ⟨t',rfl⟩:=ry; exact ne_str (fin_bl I q (congrArg not dec_str))
  | _=>exact absurd (show false=true from hs) Bool.false_ne_true
 | byt i=>
  obtain ⟨t,rfl⟩:=rx
  cases y with
  | byt j=>obtain ⟨t',rfl⟩:=ry; exact PySem.W.ne_bytes (fin_bl I q (congrArg not dec_byt))
  | _=>exact absurd (show false=true from hs) Bool.false_ne_true
 | _=>cases y <;> exact absurd (show false=true from hs) Bool.false_ne_true
theorem op_lt:OpR X (compareOp .Lt) (rI0 fun i j=>.bl (decide (i < j))):=opB0 fun _ _ _ _ _ _ _ q=>lt_int q
theorem op_le:OpR X (compareOp .LtE) (rI0 fun i j=>.bl (decide (i<=j))):=opB0 fun _ _ _ _ _ _ _ q=>le_int q
theorem op_gt:OpR X (compareOp .Gt) (rI0 fun i j=>.bl (decide (j < i))):=opB0 fun _ _ _ _ _ _ _ q=>gt_int q
theorem op_ge:OpR X (compareOp .GtE) (rI0 fun i j=>.bl (decide (j<=i))):=opB0 fun _ _ _ _ _ _ _ q=>ge_int q
theorem nomark (b:Expr) {op:CmpOp} (h:op ≠ .In:=by decide) (h2:op ≠ .NotIn:=by decide):behindInMarks op b=false:=by
 have e1:(op == CmpOp.In)=false:=by cases op <;> first | rfl | exact absurd rfl h
 have e2:(op == CmpOp.NotIn)=false:=by cases op <;> first | rfl | exact absurd rfl h2
 cases b <;> simp [behindInMarks,e1,e2]
theorem pe_cmpR {op:CmpOp} {r:R2} (ho:OpR X (compareOp op) r) (ha:PE X a ta) (hb:PE X b tb) (hm:behindInMarks op b=false):PE X (.Compare a [op] [b] pos) (tOp r ta tb):=by
 intro pins s σ H Q I h
 exact wpAny_Compare1 (binT ha hb I h fun v u s2 x y H2 I2 rx ry q=>ho pins s2 σ H2 x y v u Q I2 rx ry q) hm
def tTest (t:TE):TT:=fun σ H Q=>t σ H fun x H'=>∃ k,x=.bl k/\Q k H'
theorem pt_cmpR {op:CmpOp} {r:R2} (ho:OpR X (compareOp op) r) (ha:PE X a ta) (hb:PE X b tb) (hm:behindInMarks op b=false):PT X (.Compare a [op] [b] pos) (tTest (tOp r ta tb)):=by
 intro pins s σ H Q I h
 refine wpAny_isTrue_Compare1 (thn (ha pins s σ H _ I h) fun v s1 ⟨x,H1,I1,r1,q1⟩=>thn (hb pins s1 σ H1 _ I1 q1) fun u s2 ⟨y,H2,I2,r2,q2⟩=>
  thn (ho pins s2 σ H2 x y v u _ I2 r1 r2 q2) fun c s3 ⟨z,H3,I3,r3,k,e,q3⟩=>?_) hm
 subst e
 cases r3
 exact wpAny_truthy_bool ⟨H3,I3,q3⟩
def tChain (r r':R2) (ta tb tc:TE):TE:=fun σ H Q=>ta σ H fun x H1=>tb σ H1 fun y H2=>r x y H2 fun z H3=>∃ k,z=.bl k /\
 (if k=true then tc σ H3 fun w' H4=>r' y w' H4 Q else Q (.bl false) H3)
theorem pe_chain {op op':CmpOp} {r r':R2} (ho:OpR X (compareOp op) r) (ho':OpR X (compareOp op') r') (ha:PE X a ta) (hb:PE X b tb) (hc:PE X c tc)
  (hm:lastMarks [op,op'] [b,c]=false:=by with_unfolding_all rfl):PE X (.Compare a [op,op'] [b,c] pos) (tChain r r' ta tb tc):=by
 intro pins s σ H Q I h
 refine Compare_chain (thn (ha pins s σ H _ I h) fun v s1 ⟨x,H1,I1,r1,q1⟩=>chain_link (thn (hb pins s1 σ H1 _ I1 q1) fun u s2 ⟨y,H2,I2,r2,q2⟩=>
  thn (ho pins s2 σ H2 x y v u _ I2 r1 r2 q2) fun d s3 ⟨z,H3,I3,r3,k,e,q3⟩=>?_)) hm
 subst e
 cases r3
 refine wpAny_truthy_bool ?_
 cases k with
 | false=>exact ite_ff ⟨.bl false,H3,I3,rfl,q3⟩
 | true=>exact ite_tt (chain_last (thn (hc pins s3 σ H3 _ I3 q3) fun w' s4 ⟨z',H4,I4,r4,q4⟩=>ho' pins s4 σ H4 y z' u w' Q I4 r2 r4 q4))
theorem pt_chain {op op':CmpOp} {r r':R2} (ho:OpR X (compareOp op) r) (ho':OpR X (compareOp op') r') (ha:PE X a ta) (hb:PE X b tb) (hc:PE X c tc)
  (hm:lastMarks [op,op'] [b,c]=false:=by with_unfolding_all rfl):PT X (.Compare a [op,op'] [b,c] pos) (tTest (tChain r r' ta tb tc)):=by
 intro pins s σ H Q I h
 refine isTrue_chain (thn (ha pins s σ H _ I h) fun v s1 ⟨x,H1,I1,r1,q1⟩=>test_link (thn (hb pins s1 σ H1 _ I1 q1) fun u s2 ⟨y,H2,I2,r2,q2⟩=>
  thn (ho pins s2 σ H2 x y v u _ I2 r1 r2 q2) fun d s3 ⟨z,H3,I3,r3,k,e,q3⟩=>?_)) hm
 subst e
 cases r3
 refine wpAny_truthy_bool ?_
 cases k with
 | false=>
  obtain ⟨k',e',q'⟩:=q3
  cases e'
  exact ite_ff ⟨H3,I3,q'⟩
 | true=>
  refine ite_tt (test_last (thn (hc pins s3 σ H3 _ I3 q3) fun w' s4 ⟨z',H4,I4,r4,q4⟩=>thn (ho' pins s4 σ H4 y z' u w' _ I4 r2 r4 q4) fun d' s5 ⟨z2,H5,I5,r5,k2,e2,q5⟩=>?_))
  subst e2
  cases r5
  exact wpAny_truthy_bool ⟨H5,I5,q5⟩
def TruV (K:PySem.W.Frag) (x:V) (H:Hp) (k:Bool):Prop:=
 match x with
 | .non=>k=false
 | .bl b=>k=b
 | .int i=>k=(i != 0)
 | .str y=>y.length<=sizeLine/\k=((y.length:Int) != 0)
 | .byt y=>y.size<=sizeLine/\k=((y.size:Int) != 0)
 | .ref p=>(∃ xs,SqL K H p xs/\k = !xs.isEmpty)\/(∃ xs,SqT K H p xs/\k = !xs.isEmpty)\/∃ kvs,H p=some (.dK kvs)/\k = !kvs.isEmpty
 | _=>False
theorem isEmpty_kv {κ:Type} {kvs:List (κ × V)} {vs:List (κ × Value)} (r:KV kvs vs):(!vs.isEmpty) = !kvs.isEmpty:=by
 cases r <;> rfl
theorem isEmpty_of {xs:List V} {its:List Value} (r:Vals xs its):(!its.toArray.isEmpty) = !xs.isEmpty:=by
 cases r <;> simp
theorem line63:(sizeLine:Nat) < 2 ^ 63:=by rw [sizeLine_eq]; decide
theorem tru_ok:TruR X (fun x H Q=>∃ k,TruV X.K x H k/\Q k H):=by
 intro pins s σ H x v Q I rx h
 obtain ⟨k,e,q⟩:=h
 have hl:=line63
 have hs:sizeLine=16777216:=sizeLine_eq
 cases x with
 | non=>
  cases rx
  have e':k=false:=e
  subst e'
  exact truthy_none ⟨H,I,q⟩
 | bl b=>
  cases rx
  have e':k=b:=e
  subst e'
  exact wpAny_truthy_bool ⟨H,I,q⟩
 | int i=>
  obtain ⟨t,rfl⟩:=rx
  have e':k=(i != 0):=e
  subst e'
  exact PySem.P.truthy_int ⟨H,I,q⟩
 | str y=>
  obtain ⟨t,rfl⟩:=rx
  obtain ⟨hy,e'⟩:y.length<=sizeLine/\k=((y.length:Int) != 0):=e
  subst e'
  exact PySem.P.truthy_str (by (first|lia|omega)) ⟨H,I.tok _,q⟩
 | byt y=>
  obtain ⟨t,rfl⟩:=rx
  obtain ⟨hy,e'⟩:y.size<=sizeLine/\k=((y.size:Int) != 0):=e
  subst e'
  exact PySem.W.truthy_bytes (by (first|lia|omega)) ⟨H,I.tok _,q⟩
 | ref p=>
  cases rx
  have e':(∃ xs,SqL X.K H p xs/\k = !xs.isEmpty)\/(∃ xs,SqT X.K H p xs/\k = !xs.isEmpty)\/∃ kvs,H p=some (.dK kvs)/\k = !kvs.isEmpty:=e
  rcases e' with ⟨xs,hx,e'⟩ | ⟨xs,hx,e'⟩ | ⟨kvs,hx,e'⟩
  ·subst e'
   obtain ⟨its,r,pl,hz⟩:=I.list hx
   have hlen:=r.length
   exact wpAny_truthy_list pl.isList (by simp only [List.size_toArray]; (first|lia|omega)) ⟨H,I.tok _,by rw [isEmpty_of r]; exact q⟩
  ·subst e'
   obtain ⟨its,r,pl,hz⟩:=I.tuple hx
   have hlen:=r.length
   exact truthy_tuple pl (by simp only [List.size_toArray]; (first|lia|omega)) ⟨H,I.tok _,by rw [isEmpty_of r]; exact q⟩
  ·subst e'
   obtain ⟨hz,hS,vs,r,m⟩:kvs.length<=sizeLine/\(p == sysModules)=false/\∃ vs,KV kvs vs/\s.heap.DictOf (mixKind X.prog X.w) p vs:=I.hok p _ hx
   have hlen:kvs.length=vs.length:=Paired.length r
   exact wpAny_truthy_dict hS m (by (first|lia|omega)) ⟨H,I.tok _,by rw [isEmpty_kv r]; exact q⟩
 | _=>exact (show False from e).elim
theorem pt_truth (ha:PE X a ta) (he:∀ whole,isTrue a X.env whole=(do let v <- whole; standAt a.pos; holding [v] (truthy v))) :
  PT X a (fun σ H Q=>ta σ H fun x H'=>∃ k,TruV X.K x H' k/\Q k H'):=by
 intro pins s σ H Q I h
 exact isTrue_plain (thn (ha pins s σ H _ I h) fun v s1 ⟨x,H1,I1,r1,q1⟩=>tru_ok pins s1 σ H1 x v Q I1 r1 q1) (he _)
theorem op_add_str:OpR X (binaryOp .Add) (fun x y H Q=>∃ i j,x=.str i/\y=.str j/\i.length + j.length<=sizeLine/\Q (.str (i ++ j)) H):=by
 intro pins s σ H x y v u Q I rx ry h
 obtain ⟨i,j,rfl,rfl,hz,q⟩:=h
 obtain ⟨t,rfl⟩:=rx
 obtain ⟨t',rfl⟩:=ry
 exact add_str (fun t' tk=>⟨.str (i ++ j),H,I.tok _,⟨_,rfl⟩,q⟩) hz
theorem vals1 {x:V} {us:List Value} (r:Vals [x] us):∃ u,us=[u]/\RelV x u:=by
 cases r with
 | cons r1 r2=>cases r2; exact ⟨_,rfl,r1⟩
theorem vals2 {x y:V} {us:List Value} (r:Vals [x,y] us):∃ u w',us=[u,w']/\RelV x u/\RelV y w':=by
 cases r with
 | cons r1 r2=>
  cases r2 with
  | cons r3 r4=>cases r4; exact ⟨_,_,rfl,r1,r3⟩
theorem call_max2 (hc:X.calm=true):CallR X (.builtin "max") (fun xs H Q=>∃ i j,xs=[.int i,.int j]/\Q (.int (if j > i then j else i)) H):=by
 intro pins s σ H xs us Q I r h
 obtain ⟨i,j,rfl,q⟩:=h
 obtain ⟨u,w',rfl,⟨t,rfl⟩,⟨t',rfl⟩⟩:=vals2 r
 refine max_two_ints (I.ok.hd hc) fun h' tk k=>⟨_,H,I.kept k,?_,q⟩
 by_cases hj:j > i
 ·rw [if_pos hj,if_pos hj]; exact ⟨_,rfl⟩
 ·rw [if_neg hj,if_neg hj]; exact ⟨_,rfl⟩
theorem call_min2 (hc:X.calm=true):CallR X (.builtin "min") (fun xs H Q=>∃ i j,xs=[.int i,.int j]/\Q (.int (if j < i then j else i)) H):=by
 intro pins s σ H xs us Q I r h
 obtain ⟨i,j,rfl,q⟩:=h
 obtain ⟨u,w',rfl,⟨t,rfl⟩,⟨t',rfl⟩⟩:=vals2 r
 refine min_two_ints (I.ok.hd hc) fun h' tk k=>⟨_,H,I.kept k,?_,q⟩
 by_cases hj:j < i
 ·rw [if_pos hj,if_pos hj]; exact ⟨_,rfl⟩
 ·rw [if_neg hj,if_neg hj]; exact ⟨_,rfl⟩
theorem call_int1:CallR X (.type "int") (fun xs H Q=>(∃ i,xs=[.int i]/\Q (.int i) H)\/∃ k,xs=[.bl k]/\Q (.int (if k then 1 else 0)) H):=by
 intro pins s σ H xs us Q I r h
 rcases h with ⟨i,rfl,q⟩ | ⟨k,rfl,q⟩
 ·obtain ⟨u,rfl,t,rfl⟩:=vals1 r
  exact call_int_int ⟨.int i,H,I,⟨_,rfl⟩,q⟩
 ·obtain ⟨u,rfl,r1⟩:=vals1 r
  cases r1
  exact call_int_bool ⟨.int (if k then 1 else 0),H,I.tok _,⟨_,rfl⟩,q⟩
end
end L2
namespace L2
open PySem PySem.Spec PyProof.Rows
structure ObjM (h:Heap) (x dx C:Addr) (mA:Str->Option Value):Prop where
 obj:h.get? x=some (PySem.W.instObj C dx)
 ns:h.Ns1 dx mA
 ne:dx ≠ x
theorem lookIn_ns {h:Heap} {dx:Addr} {mA:Str->Option Value} (n:h.Ns1 dx mA):∃ od,h.get? dx=some od/\∀ name,PySem.W.lookIn name od=some (mA name):=by
 obtain ⟨o,es,ep,ho,hd,hk,_,hm⟩:=n
 refine ⟨o,ho,fun name=>?_⟩
 have e:=hm name
 unfold nsFind findBy at e
 rw [<-Array.find?_toList] at e
 unfold PySem.W.lookIn
 rw [hd]
 dsimp only
 split
 ·rename_i y q
  rw [q] at e
  exact congrArg some e
 ·rename_i q
  rw [q] at e
  have a:es.toList.any (·.refKey)=false:=by
   rw [List.any_eq_false]
   intro y hy
   obtain ⟨z,t,hkey⟩:=hk y (Array.mem_toList_iff.mp hy)
   simp [DictEntry.refKey,hkey]
  have a':¬ es.toList.any (·.refKey)=true:=by rw [a]; exact Bool.false_ne_true
  rw [if_neg a']
  exact congrArg some e
theorem ObjM.look {h:Heap} {x dx C:Addr} {mA:Str->Option Value} (I:ObjM h x dx C mA):∃ od,PySem.W.InstAt h x (PySem.W.instObj C dx) C (some od)/\∀ name,PySem.W.lookIn name od=some (mA name):=
 let ⟨od,ho,hl⟩:=lookIn_ns I.ns
 ⟨od,⟨I.obj,rfl,rfl,ho⟩,hl⟩
section
variable {prog:Program} {w:World} {A:Around} {E:Value->Shared->Prop} {s:Shared} {K:PySem.W.Frag} {x dx C f:Addr} {mA:Str->Option Value} {name:Str} {v:Value}
end
theorem RelO.some_of {v:V} {o:Option Value} (r:RelO (some v) o):∃ u,o=some u/\RelV v u:=by
 cases o with
 | none=>exact (show False from r).elim
 | some u=>exact ⟨u,rfl,r⟩
section
variable {P:Program} {w:World} {H H':Hp} {h h':Heap} {a C dx:Addr} {fs fs':List (Str × V)}
theorem ins_get (hok:HOk P w H h) (e:H a=some (.ins C dx fs)):∃ mA,ObjM h a dx C mA/\(∀ f,RelO (fs.lookup f) (mA f))/\PySem.Within mA (fs.map (·.1))/\fs.length<=1000/\H dx=some (.own a):=by
 obtain ⟨d,z,ne,ob,mA,n,r,q⟩:=(show ObjOk P w H h a (.ins C dx fs) from hok a _ e)
 exact ⟨mA,⟨ob,n,ne⟩,r,q,z,d⟩
end
structure Cls (K:PySem.W.Frag) (C:Addr):Prop where
 pg:PySem.W.plainGet K C Str.empty=true
 hd:PySem.W.hasDictIn K C=true
 po:PySem.W.plainOver K C=true
 sa:PySem.W.findIn K (.ref C) "__setattr__"=some (some (.builtin "object.__setattr__"))
theorem Cls.get {K:PySem.W.Frag} {C:Addr} (c:Cls K C) (f:Str):PySem.W.plainGet K C f=true:=c.pg
section
variable {X:Cx} {pins:List (Addr × Obj)} {σ:St} {H:Hp} {s:Shared} {a C dx:Addr} {fs:List (Str × V)} {f:Str} {v:V} {A:Around} {E:Value->Shared->Prop}
end
section
variable {X:Cx} {o e value:Expr} {f:Str} {pos pos' tpos:Pos} {ta tv:TE}
end
section
variable {X:Cx} {pins:List (Addr × Obj)} {σ:St} {H:Hp} {s:Shared} {A:Around} {E:Value->Shared->Prop} {Q:Value->Shared->Prop} {c:Value} {b:Bool}
inductive TyOf (K:PySem.W.Frag) (H:Hp):V->Value->Prop where
 | non:TyOf K H .non (.type "NoneType")
 | bl (x:Bool):TyOf K H (.bl x) (.type "bool")
 | int (i:Int):TyOf K H (.int i) (.type "int")
 | str (x:Str):TyOf K H (.str x) (.type "str")
 | flt (x:UInt64):TyOf K H (.flt x) (.type "float")
 | lst {a:Addr} {xs:List V} (e:H a=some (.lst xs)):TyOf K H (.ref a) (.type "list")
 | frz {a:Addr} {o:Obj} {xs:List V} (e:H a=some (.frz o (.lst xs))):TyOf K H (.ref a) (.type "list")
 | tup {a:Addr} {xs:List V} (e:H a=some (.tup xs)):TyOf K H (.ref a) (.type "tuple")
 | dK {a:Addr} {kvs:List (Key × V)} (e:H a=some (.dK kvs)):TyOf K H (.ref a) (.type "dict")
 | dT {a:Addr} {kvs:List (List Key × V)} (e:H a=some (.dT kvs)):TyOf K H (.ref a) (.type "dict")
 | ins {a C dx:Addr} {fs:List (Str × V)} (e:H a=some (.ins C dx fs)) (cl:Cls K C) (ha:PySem.W.findIn K (.ref C) "__class__"=some (some (.builtin "object.__class__")))
   (hn:PySem.W.specialIn K (.builtin "object.__class__") "__get__"=some (some (.builtin "getset_descriptor.__get__"))) (htk:PySem.W.takesIn K (.builtin "object.__class__")=some true)
   (hm:PySem.W.mroIn K C (.type "object")=some true):TyOf K H (.ref a) (.ref C)
theorem isinst_ok {x:V} {u t:Value} (I:Inv X pins σ H s) (rx:RelV x u) (ty:TyOf X.K H x t) (e:PySem.W.kitOne X.K t c=some b) (h:∀ tk,Q (.bool b) { s with toks:=tk }) :
  wpAny (model X.prog X.w) A (call (.builtin "isinstance") [u,c]) Q E s:=by
 cases ty with
 | non=>cases (show u=Value.none from rx); exact PySem.W.kia_one PySem.W.kitx_none I.kIn True.intro e (fun z=>nomatch z) h
 | bl y=>cases (show u=Value.bool y from rx); exact PySem.W.kia_one PySem.W.kitx_bool I.kIn True.intro e (fun z=>nomatch z) h
 | int i=>obtain ⟨t,q⟩:=(show ∃ t,u=Value.int i t from rx); cases q; exact PySem.W.kia_one PySem.W.kitx_int I.kIn True.intro e (fun z=>nomatch z) h
 | str y=>obtain ⟨t,q⟩:=(show ∃ t,u=Value.str y t from rx); cases q; exact PySem.W.kia_one PySem.W.kitx_str I.kIn True.intro e (fun z=>nomatch z) h
 | flt y=>obtain ⟨t,q⟩:=(show ∃ t,u=Value.float y t from rx); cases q; exact PySem.W.kia_one PySem.W.kitx_float I.kIn True.intro e (fun z=>nomatch z) h
 | @lst a xs ea=>
  cases (show u=Value.ref a from rx)
  obtain ⟨_,_,n,_,h1⟩:=(show ObjOk X.prog X.w H s.heap a (.lst xs) from I.hok a _ ea)
  exact PySem.W.kia_one PySem.W.kitx_list I.kIn ⟨_,h1,rfl⟩ e (fun z=>nomatch z) h
 | @frz a ob xs ea=>
  cases (show u=Value.ref a from rx)
  obtain ⟨_,_,_,n,_,h1⟩:=(show ObjOk X.prog X.w H s.heap a (.frz ob (.lst xs)) from I.hok a _ ea)
  exact PySem.W.kia_one PySem.W.kitx_list I.kIn ⟨_,h1,rfl⟩ e (fun z=>nomatch z) h
 | @tup a xs ea=>
  cases (show u=Value.ref a from rx)
  obtain ⟨_,_,_,p,_⟩:=(show ObjOk X.prog X.w H s.heap a (.tup xs) from I.hok a _ ea)
  obtain ⟨o,h1,h2,_⟩:=p
  exact PySem.W.kia_one PySem.W.kitx_tuple I.kIn ⟨o,h1,h2⟩ e (fun z=>nomatch z) h
 | @dK a kvs ea=>
  cases (show u=Value.ref a from rx)
  obtain ⟨_,_,vs,_,p⟩:=(show ObjOk X.prog X.w H s.heap a (.dK kvs) from I.hok a _ ea)
  obtain ⟨o,es,ep,h1,h2,_⟩:=p
  exact PySem.W.kia_one PySem.W.kitx_dict I.kIn ⟨o,h1,h2.1⟩ e (fun z=>nomatch z) h
 | @dT a kvs ea=>
  cases (show u=Value.ref a from rx)
  obtain ⟨_,_,xs,_,o,es,ep,h1,h2,_⟩:=(show ObjOk X.prog X.w H s.heap a (.dT kvs) from I.hok a _ ea)
  exact PySem.W.kia_one PySem.W.kitx_dict I.kIn ⟨o,h1,h2.1⟩ e (fun z=>nomatch z) h
 | @ins a C dx fs ea cl ha hn htk hm=>
  cases (show u=Value.ref a from rx)
  obtain ⟨mA,O,_⟩:=ins_get I.hok ea
  obtain ⟨od,J,_⟩:=O.look
  exact PySem.W.kia_one (PySem.W.kitx_own (cl.get _) cl.hd ha hn htk hm) I.kIn J e (fun z=>nomatch z) h
end
end L2
namespace L2
open PySem PySem.Spec PyProof.Rows
structure Room (k:Nat) (A:Around):Prop where
 hd:A.handled=none
 dp:A.depth + 3 * k + 5 < recursionLimit
 un:A.units + 16 * k + 200 < cLine
 gd:A.guards=some []:=by rfl
theorem Room.mono {j k:Nat} {A:Around} (r:Room k A) (h:j<=k):Room j A:=⟨r.hd,by have:=r.dp; (first|lia|omega),by have:=r.un; (first|lia|omega),r.gd⟩
theorem Room.deeper {k:Nat} {A:Around} (r:Room (k + 1) A) (env:Env):Room k (A.deeper env):=
 ⟨r.hd,by have:=r.dp; show A.depth + 1 + 3 * k + 5 < _; (first|lia|omega),by have:=r.un; show A.units + 3 + 16 * k + 200 < _; (first|lia|omega),r.gd⟩
theorem Room.depth {k:Nat} {A:Around} (r:Room k A):A.depth < recursionLimit:=by have:=r.dp; (first|lia|omega)
theorem Room.units {k:Nat} {A:Around} (r:Room k A):A.units + 64 < cLine:=by have:=r.un; (first|lia|omega)
def tNil:TA:=fun _ H Q=>Q [] H
def tCons (ta:TE) (tr:TA):TA:=fun σ H Q=>ta σ H fun x H1=>tr σ H1 fun xs H2=>Q (x :: xs) H2
section
variable {X:Cx} {e:Expr} {es:List Expr} {te:TE} {t:TA} {pos:Pos}
theorem pa_nil:PA X [] tNil:=fun _ _ _ _ H Q I h=>Calls.spliced_nil ⟨[],H,I,.nil,h⟩
theorem pa_cons (ha:PE X e te) (hr:PA X es t) (hs:starEach (e :: es) X.env=(false,eval e X.env) :: starEach es X.env:=by rfl):PA X (e :: es) (tCons te t):=by
 intro pos pins s σ H Q I h
 rw [hs]
 show wpAny _ _ (spliced ((false,eval e X.env) :: backTo pos (starEach es X.env))) _ _ s
 refine Calls.spliced_cons (thn (ha pins s σ H _ I h) fun u s1 ⟨x,H1,I1,r1,q1⟩=>?_)
 exact thn (hr pos pins s1 σ H1 _ I1 q1) fun us s2 ⟨xs,H2,I2,r2,q2⟩=>⟨x :: xs,H2,I2,.cons r1 r2,q2⟩
def tTup (t:TA):TE:=fun σ H Q=>t σ H fun xs H1=>xs.length<=sizeLine/\∀ p,H1 p=none->Q (.ref p) (upd H1 p (.tup xs))
def tLst (t:TA):TE:=fun σ H Q=>t σ H fun xs H1=>xs.length<=sizeLine/\∀ p,H1 p=none->Q (.ref p) (upd H1 p (.lst xs))
theorem pe_tup {x1} (h:PA X es t):PE X (.Tuple es x1 pos) (tTup t):=by
 intro pins s σ H Q I hq
 refine wpAny_Tuple_spliced (thn (h pos pins s σ H _ I hq) fun us s1 ⟨xs,H1,I1,r,z,q⟩=>⟨by rw [<-r.length]; exact z,?_⟩)
 have hf:H1 s1.heap.objs.size=none:=I1.hok.fresh (Nat.le_refl _)
 refine ⟨.ref s1.heap.objs.size,upd H1 s1.heap.objs.size (.tup xs),I1.laid (t':=s1.toks) (fun b u e=>Heap.get?_push_of_some _ e) (Nat.le_refl _) ?_,rfl,q _ hf⟩
 exact ⟨z,us,r,⟨_,Heap.get?_push_size _ rfl,rfl,_,rfl⟩,TupD.new rfl rfl⟩
theorem pe_lst (h:PA X es t):PE X (.List es pos) (tLst t):=by
 intro pins s σ H Q I hq
 refine wpAny_List_spliced (thn (h pos pins s σ H _ I hq) fun us s1 ⟨xs,H1,I1,r,z,q⟩=>⟨by rw [<-r.length]; exact z,?_⟩)
 have hf:H1 s1.heap.objs.size=none:=I1.hok.fresh (Nat.le_refl _)
 refine ⟨.ref s1.heap.objs.size,upd H1 s1.heap.objs.size (.lst xs),I1.laid (t':=s1.toks) (fun b u e=>Heap.get?_push_of_some _ e) (Nat.le_refl _) ?_,rfl,q _ hf⟩
 exact ⟨z,us,0,r,Heap.get?_push_size _ rfl⟩
end
abbrev Sp:=List V->Hp->VK->XK->Prop
abbrev CXT:=List Env->Hp->Shared->XK->Value->Shared->Prop
structure Env0 (P:Program) (w:World) (K:PySem.W.Frag) (mg:Str->Option Value) (base:Heap) (A:Around) (outer:List Env) (s:Shared) (H:Hp):Prop where
 frames:A.frames=some outer
 mod:Mod K mg base
 bs:∀ b o,base.get? b=some o->s.heap.get? b=some o/\H b=none
 bsz:base.objs.size<=s.heap.objs.size
 funs:s.heap.FunFrames base outer
 frf:∀ b ∈ frs outer,H b=none
 hok:HOk P w H s.heap
 bare:AllBare s.gens
def CE (outer:List Env) (P:Program) (w:World) (H:Hp) (s:Shared) (Q:VK) (u:Value) (s':Shared):Prop:=
 ∃ v H',s'.os=s.os/\AllBare s'.gens/\Un (frs outer) [] H H' s.heap s'.heap/\HOk P w H' s'.heap/\RelV v u/\Q v H'
def CR (CX:CXT) (outer:List Env) (P:Program) (w:World) (H:Hp) (s:Shared) (Q:VK) (E:XK) (r:Result) (s':Shared):Prop:=
 match r with
 | .ok (.ret u)=>CE outer P w H s Q u s'
 | .ok _=>False
 | .error e=>CX outer H s E e s'
structure FnOk (P:Program) (w:World) (K:PySem.W.Frag) (mg:Str->Option Value) (base:Heap) (CX:CXT) (k:Nat) (f:Addr) (fd:FuncData) (ps:List Str) (sp:Sp):Prop where
 len:∀ vs H Q E,sp vs H Q E->vs.length=ps.length
 run:∀ (A:Around) (outer:List Env) (s:Shared) (H:Hp) (args:Args) (us:List Value) (vs:List V) (Q:VK) (E:XK),Room k A->Env0 P w K mg base A outer s H->BindsTo s fd args (ps.zip us)->Vals vs us->sp vs H Q E ->
  codeAny (model P w) A (.call (.ref f) args) (CR CX outer P w H s Q E) s
section
variable {X:Cx} {pins:List (Addr × Obj)} {σ:St} {H:Hp} {s s':Shared}
theorem Inv.env0 (I:Inv X pins σ H s):Env0 X.prog X.w X.K X.mg X.base X.A X.stack s H:=
 ⟨I.ok.frames,I.ok.mod,I.bs,Nat.le_trans I.ok.bsz I.sz,I.stack,I.stkFree,I.hok,I.bare⟩
theorem Inv.after {Q:VK} {u:Value} (I:Inv X pins σ H s) (h:CE X.stack X.prog X.w H s Q u s'):EP X pins σ Q u s':=by
 obtain ⟨v,H',os,bare,un,hok,r,q⟩:=h
 obtain ⟨hh,g,d,t,os'⟩:=s'
 obtain rfl:os'=s.os:=os
 exact ⟨v,H',I.call (h':=hh) (g':=g) (d':=d) (t':=t) (ch:=[]) un hok bare (fun b z=>absurd z (by simp)),r,q⟩
end
def tCall (sp:Sp) (dvs:List V) (E:XK) (t:TA):TE:=fun σ H Q=>t σ H fun vs H1=>sp (vs ++ dvs) H1 Q E
def Binds (K:PySem.W.Frag) (fd:FuncData) (ps:List Str) (ds:List Value):Prop:=
 ∀ (s:Shared) (us:List Value),K.In s.heap->(us ++ ds).length=ps.length->BindsTo s fd ⟨us,[]⟩ (ps.zip (us ++ ds))
theorem Binds.all {K:PySem.W.Frag} {fd:FuncData} {ps:List Str} (h:∀ us:List Value,us.length=ps.length->bindArgs fd ⟨us,[]⟩=pure (ps.zip us)):Binds K fd ps []:=fun s us _ hl=>by
 rw [List.append_nil] at hl ⊢
 exact .of_eq (h us hl)
def Passes (CX:CXT) (X:Cx) (E:XK):Prop:=∀ (pins:List (Addr × Obj)) (σ:St) (H:Hp) (s:Shared) (e:Value) (s':Shared),Inv X pins σ H s->CX X.stack H s E e s'->X.xe e s'
section
variable {X:Cx} {CX:CXT} {k:Nat} {f C:Addr} {fd:FuncData} {ps:List Str} {sp:Sp} {dvs:List V} {ds:List Value} {E:XK} {x m:Str} {p pos apos:Pos} {e o:Expr} {es:List Expr} {ta:TE} {t:TA}
theorem run_fn {pins:List (Addr × Obj)} {σ:St} {H:Hp} {s:Shared} {Q:VK} {us:List Value} {vs:List V} (F:FnOk X.prog X.w X.K X.mg X.base CX k f fd ps sp) (hr:Room k X.A) (hb:Binds X.K fd ps ds) (hd:Vals dvs ds) (hx:Passes CX X E)
  (I:Inv X pins σ H s) (r:Vals vs us) (h:sp (vs ++ dvs) H Q E):wpAny (model X.prog X.w) X.A (call (.ref f) us) (EP X pins σ Q) X.xe s:=by
 have r2:Vals (vs ++ dvs) (us ++ ds):=r.append hd
 have hl:(us ++ ds).length=ps.length:=by rw [<-r2.length]; exact F.len _ _ _ _ h
 refine wpAny_call (codeAny_mono (F.run X.A X.stack s H ⟨us,[]⟩ (us ++ ds) (vs ++ dvs) Q E hr I.env0 (hb s us I.kIn hl) r2 h) fun r s' hq=>?_)
 cases r with
 | error e=>exact hx pins σ H s e s' I hq
 | ok fl=>
  cases fl with
  | ret u=>exact I.after hq
  | next=>exact False.elim hq
  | brk=>exact False.elim hq
  | cont=>exact False.elim hq
theorem pe_call (F:FnOk X.prog X.w X.K X.mg X.base CX k f fd ps sp) (hr:Room k X.A) (hg:Gl X x) (hm:X.mg x=some (.ref f)) (hk:PySem.W.keepIn X.K (.ref f)=true) (hb:Binds X.K fd ps ds) (hd:Vals dvs ds) (hx:Passes CX X E)
  (ha:PA X (e :: es) t) (hdb:(x == ("__debug__":Str))=false:=by decide) (he:starEach (e :: es) X.env=(false,eval e X.env) :: starEach es X.env:=by rfl) (hpl:(backTo pos (starEach es X.env)).any (·.1)=false:=by rfl) :
  PE X (.Call (.Name x p) (e :: es) [] pos) (tCall sp dvs E t):=by
 intro pins s σ H Q I h
 refine wpAny_Call_Name_kw (ld_glob I hg hm ?_ hdb)
 refine PySem.W.callWith_K (h₀:=X.base) I.ok.mod.kin hk (thn (ha pos pins s σ H _ I h) fun us s1 ⟨vs,H1,I1,r,q⟩=>⟨I1.kIn,?_⟩) he hpl
 exact run_fn F hr hb hd hx I1 r q
end
section
variable {X:Cx} {CX:CXT} {k:Nat} {f C:Addr} {fd:FuncData} {ps ks:List Str} {sp:Sp} {E:XK} {x m:Str} {p pos apos kpos:Pos} {e o:Expr} {es:List Expr} {kws:List Keyword} {te ta:TE} {t tk:TA} {nm:Option Str}
variable {g:List Value->List Value->List Value} {gV:List V->List V->List V}
end
structure FnScope (N P:List Str) (sc:Scope):Prop where
 kind:sc.kind=.function
 co:sc.isCoroutine=false
 gen:sc.isGenerator=false
 nd:N.Nodup
 pre:N.take P.length=P
 par:∀ x ∈ P,sc.names.lookup x=some .local\/sc.names.lookup x=some .cell
 nofree:∀ y ∈ sc.names,y.2 ≠ .free
theorem bindL_out {kindOf:Str->Option NameKind} {x:Str}:∀ {binds:List (Str × Value)} {m:Str->Option Value},(∀ v,(x,v) ∉ binds)->bindL kindOf binds m x=m x
 | [],_,_=>rfl
 | (n,v) :: r,m,h=>by
  unfold bindL
  rw [bindL_out fun w hw=>h w (List.mem_cons_of_mem _ hw)]
  split
  ·have:x ≠ n:=by rintro rfl; exact h v List.mem_cons_self
   simp [this]
  ·rfl
theorem bindC_out {kindOf:Str->Option NameKind} {x:Str}:∀ {binds:List (Str × Value)} {m:Str->Option Value},(∀ v,(x,v) ∉ binds)->bindC kindOf binds m x=m x
 | [],_,_=>rfl
 | (n,v) :: r,m,h=>by
  unfold bindC
  rw [bindC_out fun w hw=>h w (List.mem_cons_of_mem _ hw)]
  split
  ·rfl
  ·have:x ≠ n:=by rintro rfl; exact h v List.mem_cons_self
   simp [this]
theorem bindL_get {kindOf:Str->Option NameKind} {x:Str} {v:Value}:∀ {P:List Str} {vs:List Value} {i:Nat} {m:Str->Option Value},P.Nodup->P[i]? = some x->vs[i]? = some v->kindOf x=some .local ->
  bindL kindOf (P.zip vs) m x=some v
 | [],_,_,_,_,h,_,_=>by simp at h
 | _ :: _,[],_,_,_,_,h,_=>by simp at h
 | p :: P,w :: vs,0,m,nd,h1,h2,hk=>by
  simp at h1 h2; subst h1; subst h2
  show bindL kindOf ((p,w) :: P.zip vs) m p=_
  unfold bindL
  rw [bindL_out fun v hv=>(List.nodup_cons.mp nd).1 (List.of_mem_zip hv).1,if_pos hk]
  simp
 | p :: P,w :: vs,i + 1,m,nd,h1,h2,hk=>by
  show bindL kindOf ((p,w) :: P.zip vs) m x=_
  unfold bindL
  exact bindL_get (i:=i) (List.nodup_cons.mp nd).2 (by simpa using h1) (by simpa using h2) hk
theorem bindC_get {kindOf:Str->Option NameKind} {x:Str} {v:Value}:∀ {P:List Str} {vs:List Value} {i:Nat} {m:Str->Option Value},P.Nodup->P[i]? = some x->vs[i]? = some v->kindOf x ≠ some .local ->
  bindC kindOf (P.zip vs) m x=some v
 | [],_,_,_,_,h,_,_=>by simp at h
 | _ :: _,[],_,_,_,_,h,_=>by simp at h
 | p :: P,w :: vs,0,m,nd,h1,h2,hk=>by
  simp at h1 h2; subst h1; subst h2
  show bindC kindOf ((p,w) :: P.zip vs) m p=_
  unfold bindC
  rw [bindC_out fun v hv=>(List.nodup_cons.mp nd).1 (List.of_mem_zip hv).1,if_neg hk]
  simp
 | p :: P,w :: vs,i + 1,m,nd,h1,h2,hk=>by
  show bindC kindOf ((p,w) :: P.zip vs) m x=_
  unfold bindC
  exact bindC_get (i:=i) (List.nodup_cons.mp nd).2 (by simpa using h1) (by simpa using h2) hk
def start (N:List Str) (vs:List V):St:=vs.map some ++ List.replicate (N.length - vs.length) none
def cxOf (CX:CXT) (P:Program) (w:World) (K:PySem.W.Frag) (mg:Str->Option Value) (base:Heap) (N:List Str) (qual:Str) (scope:Scope) (f:Addr) (cd:Value) (A:Around) (outer:List Env) (s:Shared) (H:Hp) (E:XK):Cx where
 prog:=P
 w:=w
 K:=K
 mg:=mg
 base:=base
 A:=A.deeper (envOfC qual scope s.heap.objs.size f cd)
 N:=N
 s₀:=s
 H₀:=H
 env:=envOfC qual scope s.heap.objs.size f cd
 outer:=outer
 stack:=envOfC qual scope s.heap.objs.size f cd :: outer
 ex:=[]
 calm:=true
 fn:=fun _=>true
 pn:=[]
 xe:=fun e s'=>wpAny (model P w) (A.deeper (envOfC qual scope s.heap.objs.size f cd)) (leaving (envOfC qual scope s.heap.objs.size f cd) e) (fun _ s''=>CX outer H s E e s'') (fun e' s''=>CX outer H s E e' s'') s'
theorem cell_has {sc:Scope} {n:Nat} {x:Str} (h:sc.names.lookup x=some .cell):∃ c,(cellsFrom n sc.names []).lookup x=some c:=by
 have q:=PySem.W.cellsFrom_some sc.names n [] (.inl h)
 exact Option.isSome_iff_exists.mp q
theorem inv_start {CX:CXT} {P:Program} {w:World} {K:PySem.W.Frag} {mg:Str->Option Value} {base:Heap} {N ps:List Str} {qual:Str} {scope:Scope} {f:Addr} {cd:Value} {A:Around} {outer:List Env} {s s1:Shared} {H:Hp} {E:XK} {us:List Value} {vs:List V}
  (S:FnScope N ps scope) (hd:A.handled=none) (e0:Env0 P w K mg base A outer s H) (hl:vs.length=ps.length) (r:Vals vs us)
  (x:InCallC s s.heap.objs.size (bindL (envOfC qual scope s.heap.objs.size f cd).kindOf (ps.zip us) fun _=>none) (cellsFrom (s.heap.objs.size + 1) scope.names []) (bindC (envOfC qual scope s.heap.objs.size f cd).kindOf (ps.zip us) fun _=>none) s1) :
  Inv (cxOf CX P w K mg base N qual scope f cd A outer s H E) [] (start N vs) H s1:=by
 have hpl:ps.length<=N.length:=by have:=congrArg List.length S.pre; rw [List.length_take] at this; (first|lia|omega)
 obtain ⟨h1,tk,rfl,hk⟩:=x.done
 have noA:∀ b:Addr,b ∉ (cxOf CX P w K mg base N qual scope f cd A outer s H E).ex:=fun b z=>absurd (show b ∈ ([]:List Addr) from z) (by simp)
 refine ⟨⟨e0.mod,S.kind,rfl,rfl,Nat.le_refl _,fun y z c h1 h2=>?_,fun y hy=>?_,fun y c _ h=>?_,fun _=>hd,Around.frames_deeper e0.frames,.inr ⟨rfl,rfl⟩,fun b z=>absurd z (noA b),e0.bs,e0.bsz,fun b _ _=>noA b,fun b z=>absurd z (noA b),e0.funs,e0.frf⟩,
  rfl,e0.bare,Un.kept hk,⟨_,x.toInCall.ns,fun i y v h1 h2 h3=>?_⟩,fun y c h=>⟨_,x.cell y c h⟩,e0.hok.fresh (Nat.le_refl _),fun y c h=>?_,fun p hp=>absurd (show p ∈ ([]:List (Addr × Obj)) from hp) (by simp),e0.hok.kept hk,?_⟩
 ·exact name_of_addr x.apart (PySem.mem_of_lookup h1) (PySem.mem_of_lookup h2)
 ·have hy:scope.names.lookup y=some .cell\/scope.names.lookup y=some .free:=hy
  rcases hy with hy | hy
  ·exact cell_has hy
  ·exact absurd rfl (S.nofree _ (PySem.mem_of_lookup hy))
 ·exact Nat.le_of_lt (x.above y c (PySem.mem_of_lookup h))
 ·have hi:i < vs.length:=by
   unfold start at h2
   by_cases hi:i < vs.length
   ·exact hi
   ·rw [List.getElem?_append_right (by simpa using hi)] at h2
    rw [List.getElem?_replicate] at h2
    split at h2 <;> cases h2
  have ha:vs[i]? = some v:=by
   unfold start at h2
   rw [List.getElem?_append_left (by simpa using hi),List.getElem?_map] at h2
   cases e:vs[i]? with
   | none=>rw [e] at h2; cases h2
   | some a=>rw [e] at h2; cases h2; rfl
  obtain ⟨u,hu,rv⟩:=r.get ha
  have hp:ps[i]? = some y:=by
   rw [<-S.pre,List.getElem?_take_of_lt (by (first|lia|omega))]; exact h1
  have ndP:ps.Nodup:=by rw [<-S.pre]; exact S.nd.sublist (List.take_sublist _ _)
  refine ⟨u,rv,?_⟩
  rcases S.par y (List.mem_of_getElem? hp) with k | k
  ·exact .inl ⟨k,bindL_get ndP hp hu k⟩
  ·obtain ⟨c,e⟩:=cell_has (n:=s.heap.objs.size + 1) k
   refine .inr ⟨.inl k,c,e,?_⟩
   have q:=x.cell y c e
   rw [bindC_get ndP hp hu (by show scope.names.lookup y ≠ _; rw [k]; decide)] at q
   exact q
 ·exact e0.hok.fresh (Nat.le_of_lt (x.above y c (PySem.mem_of_lookup h)))
 ·unfold start
  show _=N.length
  rw [List.length_append,List.length_map,List.length_replicate]
  (first|lia|omega)
theorem fn_of {CX:CXT} {P:Program} {w:World} {K:PySem.W.Frag} {mg:Str->Option Value} {base:Heap} {k:Nat} {f:Addr} {name qual:Str} {params:Arguments} {body:List Stmt} {scope:Scope} {dV kV doc pm cdv ct oc:Value} {an od:Option Addr}
  {osl:Array (Option Value)} {N ps:List Str} {sp:Sp} (lk:K.lookup f=some ⟨oc,od,.func (PySem.W.fnOf name qual params body scope dV kV doc pm an cdv ct),osl⟩) (hcd:PySem.W.codeIn K cdv qual=true) (S:FnScope N ps scope)
  (len:∀ vs H Q E,sp vs H Q E->vs.length=ps.length)
  (hbody:∀ (A:Around) (outer:List Env) (s:Shared) (H:Hp) (vs:List V) (Q:VK) (E:XK),Room k (A.deeper (envOfC qual scope s.heap.objs.size f cdv))->sp vs H Q E ->
   ∃ t,PSs (cxOf CX P w K mg base N qual scope f cdv A outer s H E) body t/\t { nx:=fun _ H'=>Q .non H',rt:=Q } (start N vs) H) :
  FnOk P w K mg base CX (k + 1) f (PySem.W.fnOf name qual params body scope dV kV doc pm an cdv ct) ps sp:=by
 refine ⟨len,fun A outer s H args us vs Q E hr e0 hb r hsp=>?_⟩
 have hl:=len _ _ _ _ hsp
 have KX:K.In s.heap:=e0.mod.kin.keeps fun b o e=>(e0.bs b o e).1
 have lim:s.heap.NoLimit:=e0.mod.nolimit.keeps fun b o e=>(e0.bs b o e).1
 have hkind:∀ y ∈ ps.zip us,scope.names.lookup y.1=some .local\/(scope.names.lookup y.1=some .cell/\((cellsFrom (s.heap.objs.size + 1) scope.names []).lookup y.1).isSome=true):=fun ⟨n,v⟩ hy=>by
  rcases S.par n (List.of_mem_zip hy).1 with q | q
  ·exact .inl q
  ·exact .inr ⟨q,PySem.W.cellsFrom_some _ _ _ (.inl q)⟩
 refine codeAny_call_function hr.depth (KX _ _ lk) rfl S.co S.gen rfl (PySem.W.codeRec_of KX hcd) (hb _ _ _ _ ?_)
 refine wpAny_newFunctionEnv_cells S.kind hkind fun env he s1 x=>?_
 subst he
 refine ⟨lim.keeps x.toInCall.keep,codeAny_func ?_⟩
 obtain ⟨t,ht,hq⟩:=hbody A outer s H vs Q E (hr.deeper _) hsp
 have I:Inv (cxOf CX P w K mg base N qual scope f cdv A outer s H E) [] (start N vs) H s1:=inv_start S hr.hd e0 hl r x
 refine wpAny_mono (ht [] s1 (start N vs) H _ I hq) (fun fl s' hs=>?_) fun e s' hs=>hs
 have fin:∀ {σ':St} {H':Hp} {v:V} {u:Value},Inv (cxOf CX P w K mg base N qual scope f cdv A outer s H E) [] σ' H' s'->RelV v u->Q v H'->CE outer P w H s Q u s':=
  fun {σ' H' v u} J rv q=>⟨v,H',J.os,J.bare,J.base,J.hok,rv,q⟩
 cases fl with
 | ret u=>
  obtain ⟨v,σ',H',J,rv,q⟩:=hs
  exact fin J rv q
 | next=>
  obtain ⟨σ',H',J,q⟩:=hs
  exact fin (v:=V.non) (u:=Value.none) J rfl q
 | brk=>
  obtain ⟨_,_,_,q⟩:=hs
  exact False.elim q
 | cont=>
  obtain ⟨_,_,_,q⟩:=hs
  exact False.elim q
end L2
namespace L2
open PySem PySem.Spec PyProof.Rows
section
variable {X:Cx} {x:Str} {p pos:Pos} {e:Expr} {es:List Expr} {t:TA} {id T:String} {r:List V->Hp->VK->Prop}
def tCB (r:List V->Hp->VK->Prop) (t:TA):TE:=fun σ H Q=>t σ H fun vs H1=>r vs H1 Q
theorem pe_callB (hc:CallR X (.builtin id) r) (hg:Gl X x) (hm:X.mg x=none) (hv:bootBuiltins x=some (.builtin id)) (ha:PA X (e :: es) t) (hn:x ≠ "__name__":=by decide) (hdb:(x == ("__debug__":Str))=false:=by decide)
  (he:starEach (e :: es) X.env=(false,eval e X.env) :: starEach es X.env:=by rfl) (hpl:(backTo pos (starEach es X.env)).any (·.1)=false:=by rfl):PE X (.Call (.Name x p) (e :: es) [] pos) (tCB r t):=by
 intro pins s σ H Q I h
 refine wpAny_Call_Name_kw (ld_blt I hg hm hv ?_ hn hdb)
 exact PyProof.Rows.callWith_builtin1 (thn (ha pos pins s σ H _ I h) fun us s1 ⟨vs,H1,I1,r1,q1⟩=>hc pins s1 σ H1 vs us Q I1 r1 q1) he hpl
theorem pe_callTy (hc:CallR X (.type T) r) (hg:Gl X x) (hm:X.mg x=none) (hv:bootBuiltins x=some (.type T)) (ha:PA X (e :: es) t) (hn:x ≠ "__name__":=by decide) (hdb:(x == ("__debug__":Str))=false:=by decide)
  (he:starEach (e :: es) X.env=(false,eval e X.env) :: starEach es X.env:=by rfl) (hpl:(backTo pos (starEach es X.env)).any (·.1)=false:=by rfl):PE X (.Call (.Name x p) (e :: es) [] pos) (tCB r t):=by
 intro pins s σ H Q I h
 refine wpAny_Call_Name_kw (ld_blt I hg hm hv ?_ hn hdb)
 exact PyProof.Rows.callWith_type1 (thn (ha pos pins s σ H _ I h) fun us s1 ⟨vs,H1,I1,r1,q1⟩=>hc pins s1 σ H1 vs us Q I1 r1 q1) he hpl
end
end L2
namespace HT
open PySem PyProof.Rows
section
open PySem.SeqAt
open PySem.AutoSeq1 (wpAny_loadPart')
open PySem.MeetsSeq PySem.MeetsSeq2 PySem.MeetsSeq3
end
section
variable {prog:Program} {w:World} {A:Around} {E:Value->Shared->Prop} {s:Shared}
theorem cat_tup {t b:Addr} {vs ws:List Value} {Q:Value->Shared->Prop} (ht:IsTup s.heap t vs.toArray) (hb:IsTup s.heap b ws.toArray) (hv:vs ≠ [])
  (h1:ws=[]->Q (.ref t) s) (h2:ws ≠ []->Q (.ref s.heap.objs.size) { s with heap:=s.heap.push { cls:=.type "tuple",data:=.seq (vs ++ ws).toArray } })
  (hsz:vs.length + ws.length<=sizeLine):wpAny (model prog w) A (binaryOp .Add (.ref t) (.ref b)) Q E s:=by
 obtain ⟨⟨cls,dd,data,sl⟩,ho,hc,n,hd⟩:=id ht
 obtain ⟨⟨cls2,dd2,data2,sl2⟩,ho2,hc2,n2,hd2⟩:=id hb
 simp only at hc hd hc2 hd2
 subst hc hd hc2 hd2
 have e:vs.toArray ++ ws.toArray=(vs ++ ws).toArray:=by simp
 by_cases hw:ws=[]
 ·exact concat_meets ⟨_,ho,rfl⟩ ⟨_,ho2,rfl⟩ noFill_tuple_add seq_tuple_add PySem.F.slot_tuple_add PySem.F.entry_tuple_add (PySem.F.args_tuple_add_2 _ _)
   (tuple_addW1 t b vs.toArray ws.toArray n n2 dd dd2 sl sl2 (by simpa using hv) (by simp [hw])) ⟨ho,ho2,h1 hw⟩
 ·refine concat_meets ⟨_,ho,rfl⟩ ⟨_,ho2,rfl⟩ noFill_tuple_add seq_tuple_add PySem.F.slot_tuple_add PySem.F.entry_tuple_add (PySem.F.args_tuple_add_2 _ _)
   (tuple_addW2 t b vs.toArray ws.toArray n n2 dd dd2 sl sl2 (by simpa using hv) (by simpa using hw) (by rw [List.size_toArray,List.size_toArray]; exact hsz)) ⟨ho,ho2,?_⟩
  rw [e]
  exact h2 hw
def sIx (n d:Nat):Option Int->Nat
 | none=>d
 | some v=>if v < 0 then (v + (n:Int)).toNat else min v.toNat n
theorem sIx_le (n d:Nat) (hd:d<=n) (o:Option Int):sIx n d o<=n:=by
 cases o with
 | none=>exact hd
 | some v=>
  show (if v < 0 then (v + (n:Int)).toNat else min v.toNat n)<=n
  by_cases hv:v < 0
  ·rw [if_pos hv]; (first|lia|omega)
  ·rw [if_neg hv]; exact Nat.min_le_right _ _
theorem clip_eq (v:Int) (n d:Nat):(if v < 0 then max (v + (n:Int)) 0 else min v (n:Int))=((sIx n d (some v):Nat):Int):=by
 show (if v < 0 then max (v + (n:Int)) 0 else min v (n:Int))=(((if v < 0 then (v + (n:Int)).toNat else min v.toNat n):Nat):Int)
 by_cases hv:v < 0
 ·simp only [if_pos hv]; (first|lia|omega)
 ·simp only [if_neg hv]; (first|lia|omega)
theorem adjust_gen (lo hi:Option Int) (n:Nat):Builtin.Slice.sliceAdjust lo hi 1 (n:Int)=(((sIx n 0 lo:Nat):Int),((sIx n n hi:Nat):Int)):=by
 have h1:¬ ((1:Int) < 0):=by (first|lia|omega)
 unfold Builtin.Slice.sliceAdjust
 simp only [h1,if_false]
 refine Prod.ext ?_ ?_
 ·cases lo with
  | none=>rfl
  | some v=>exact clip_eq v n 0
 ·cases hi with
  | none=>rfl
  | some v=>exact clip_eq v n n
theorem places_gen (i j:Nat):Builtin.Slice.slicePlaces (i:Int) (j:Int) 1=j - i:=by
 unfold Builtin.Slice.slicePlaces
 have h1:(1:Int) > 0:=by (first|lia|omega)
 simp only [h1,if_true,Int.ediv_one]
 split <;> (first|lia|omega)
theorem slicePart_ {v:Value} {o:Option Int} {Q:Option Int->Shared->Prop} (p:IsPart v o) (h:Q o s):wpAny (model prog w) A (Builtin.Slice.slicePartIndex v) Q E s:=by
 cases p with
 | none=>exact slicePart_none h
 | int i t=>exact slicePart_int h
theorem sliceApplied_gen {sl:Addr} {vl vu:Value} {lo hi:Option Int} {n:Nat} {Q:Int × Int × Nat->Shared->Prop} (hs:s.heap.IsSliceOf sl vl vu .none) (pl:IsPart vl lo) (pu:IsPart vu hi)
  (h:Q (((sIx n 0 lo:Nat):Int),1,sIx n n hi - sIx n 0 lo) s):wpAny (model prog w) A (Builtin.Slice.sliceApplied (.ref sl) (pure (n:Int))) Q E s:=by
 obtain ⟨os,hos,hcs,hds⟩:=id hs
 unfold Builtin.Slice.sliceApplied Builtin.Slice.sliceFields
 refine wpAny_bind (wpAny_bind (wpAny_field hos hds (x:=vl) rfl (wpAny_bind (wpAny_field hos hds (x:=vu) rfl (wpAny_bind (wpAny_field hos hds (x:=.none) rfl (wpAny_pure ?_)))))))
 refine wpAny_bind (slicePart_none ?_)
 show wpAny _ _ (if ((1:Int) == 0)=true then _ else _) _ _ s
 rw [if_neg (by decide)]
 refine wpAny_bind (slicePart_ pl (wpAny_bind (slicePart_ pu (wpAny_bind (wpAny_pure ?_)))))
 show wpAny _ _ (match Builtin.Slice.sliceAdjust lo hi 1 (n:Int) with | (lo,hi)=>pure (lo,(1:Int),Builtin.Slice.slicePlaces lo hi 1)) _ _ s
 rw [adjust_gen lo hi n]
 show wpAny _ _ (pure (((sIx n 0 lo:Nat):Int),(1:Int),Builtin.Slice.slicePlaces ((sIx n 0 lo:Nat):Int) ((sIx n n hi:Nat):Int) 1)) _ _ s
 rw [places_gen]
 exact wpAny_pure h
theorem pick_gen (xs:Array Value) (i k:Nat):((List.range k).filterMap fun (m:Nat)=>xs[((i:Int) + (m:Int) * 1).toNat]?).toArray=((xs.toList.drop i).take k).toArray:=by
 have e:(fun (m:Nat)=>xs[((i:Int) + (m:Int) * 1).toNat]?)=fun m=>xs[i + m]?:=by
  funext m
  have:((i:Int) + (m:Int) * 1).toNat=i + m:=by (first|lia|omega)
  rw [this]
 rw [e]
 have:=pick_run xs i k
 rw [List.filterMap_map] at this
 have e2:((fun x=>xs[x]?) ∘ fun x=>i + x)=fun m=>xs[i + m]?:=rfl
 rw [e2] at this
 rw [this]
theorem getItem_tuple_cut {t sl:Addr} {items:Array Value} {vl vu:Value} {lo hi:Option Int} {Q:Value->Shared->Prop} (ht:IsTup s.heap t items) (hs:s.heap.IsSliceOf sl vl vu .none) (pl:IsPart vl lo) (pu:IsPart vu hi)
  (hw:¬ (sIx items.size 0 lo=0/\sIx items.size items.size hi=items.size))
  (h:Q (.ref s.heap.objs.size) { s with heap:=s.heap.push { cls:=.type "tuple",data:=.seq ((items.toList.drop (sIx items.size 0 lo)).take (sIx items.size items.size hi - sIx items.size 0 lo)).toArray } })
  (hsz:items.size<=sizeLine):wpAny (model prog w) A (getItem (.ref t) (.ref sl)) Q E s:=by
 have htake:sizeOk (.seq ((items.toList.drop (sIx items.size 0 lo)).take (sIx items.size items.size hi - sIx items.size 0 lo)).toArray):=by
  show ((items.toList.drop (sIx items.size 0 lo)).take (sIx items.size items.size hi - sIx items.size 0 lo)).toArray.size<=sizeLine
  rw [List.size_toArray,List.length_take,List.length_drop,Array.length_toList]
  (first|lia|omega)
 have hj:sIx items.size items.size hi<=items.size:=sIx_le _ _ (Nat.le_refl _) hi
 obtain ⟨os,hos,hcs,hds⟩:=id hs
 have hTs:s.TypeIs (.ref sl) "slice":=⟨os,hos,hcs⟩
 unfold getItem
 try with_reducible refine wpAny_holding ?_
 first | refine wpAny_bind (wpAny_pure ?_) | skip
 refine wpAny_bind (wpAny_sequenceKey ht.typeIs (by decide) ?_)
 refine wpAny_bind (wpAny_callSpecial?_slot (name:=Str.ofString "__getitem__") ht.typeIs PyProof.Rows.slot_tuple_getitem
  (wpAny_call_entry PyProof.Rows.slot_tuple_getitem ht.typeIs entry_tuple_getitem ?_ (args_tuple_getitem _ _)))
 show wpAny _ _ (Builtin.Tuple.tupleItemsOf (.ref t) >>= _) _ _ s
 refine wpAny_bind (tupleItemsOf_ ht ?_)
 refine wpAny_bind (wpAny_typeOf hTs ?_)
 rw [if_pos (by decide)]
 refine wpAny_bind (sliceApplied_gen hs pl pu ?_)
 have hno:¬ ((((sIx items.size 0 lo:Nat):Int) == 0 && (1:Int) == 1 && (sIx items.size items.size hi - sIx items.size 0 lo) == items.size)=true):=by
  intro q
  rw [Bool.and_eq_true,Bool.and_eq_true] at q
  have q1:((sIx items.size 0 lo:Nat):Int)=0:=eq_of_beq q.1.1
  have q2:sIx items.size items.size hi - sIx items.size 0 lo=items.size:=eq_of_beq q.2
  exact hw ⟨by (first|lia|omega),by (first|lia|omega)⟩
 show wpAny _ _ (if (((sIx items.size 0 lo:Nat):Int) == 0 && (1:Int) == 1 && (sIx items.size items.size hi - sIx items.size 0 lo) == items.size)=true then _ else _) _ _ s
 rw [if_neg hno,pick_gen]
 first
  | exact wpAny_bind (m:=Builtin.Tuple.tupleExact _) (wpAny_newObj_type (wpAny_pure ⟨_,rfl,wpAny_pure h⟩) htake)
  | exact wpAny_bind (m:=Builtin.Tuple.tupleExact _) (wpAny_newObj_type (wpAny_bind (wpAny_pure (wpAny_pure ⟨_,rfl,wpAny_pure h⟩))) htake)
  | exact wpAny_bind (wpAny_bind (m:=Builtin.Tuple.tupleExact _) (wpAny_newObj_type (wpAny_pure (wpAny_pure ⟨_,rfl,wpAny_pure h⟩)) htake))
  | exact wpAny_bind (wpAny_bind (m:=Builtin.Tuple.tupleExact _) (wpAny_newObj_type (wpAny_pure ⟨_,rfl,wpAny_pure h⟩) htake))
end
end HT
namespace L2
open PySem PySem.Spec PyProof.Rows
abbrev TO:=St->Hp->(Option Int->Hp->Prop)->Prop
def PO (X:Cx) (e:Option Expr) (t:TO):Prop:=
 ∀ (pins:List (Addr × Obj)) (s:Shared) (σ:St) (H:Hp) (Q:Option Int->Hp->Prop),Inv X pins σ H s->t σ H Q ->
  wpAny (model X.prog X.w) X.A (evalPart e X.env) (fun u s'=>∃ o H',Inv X pins σ H' s'/\IsPart u o/\Q o H') X.xe s
def tNoPart:TO:=fun _ H Q=>Q none H
def tPart (t:TE):TO:=fun σ H Q=>t σ H fun x H1=>∃ i,x=.int i/\Q (some i) H1
section
variable {X:Cx} {e:Expr} {te:TE} {lo hi:Option Expr} {tl th:TO} {pos p2:Pos}
theorem po_none:PO X none tNoPart:=by
 intro pins s σ H Q I h
 rw [evalPart_none]
 exact wpAny_pure ⟨none,H,I,.none,h⟩
theorem po_some (h:PE X e te):PO X (some e) (tPart te):=by
 intro pins s σ H Q I hw
 rw [evalPart_some]
 refine thn (h pins s σ H _ I hw) fun u s1 ⟨x,H1,I1,r1,q1⟩=>?_
 obtain ⟨i,rfl,q⟩:=q1
 obtain ⟨t,rfl⟩:=r1
 exact ⟨some i,H1,I1,.int i t,q⟩
def SlR (X:Cx) (r:V->Option Int->Option Int->Hp->VK->Prop):Prop:=
 ∀ (pins:List (Addr × Obj)) (s:Shared) (σ:St) (H:Hp) (x:V) (v vl vu:Value) (lo hi:Option Int) (sl:Addr) (Q:VK),Inv X pins σ H s->RelV x v->s.heap.IsSliceOf sl vl vu .none->IsPart vl lo->IsPart vu hi->r x lo hi H Q ->
  ∃ T id,typeLookup (.type T) "__getitem__"=pure (some (.builtin id))/\s.TypeIs v T/\wpAny (model X.prog X.w) X.A (getItem v (.ref sl)) (EP X pins σ Q) X.xe s
def tSl (r:V->Option Int->Option Int->Hp->VK->Prop) (te:TE) (tl th:TO):TE:=fun σ H Q=>te σ H fun x H1=>tl σ H1 fun l H2=>th σ H2 fun u H3=>r x l u H3 Q
theorem pe_slice {r:V->Option Int->Option Int->Hp->VK->Prop} (hr:SlR X r) (he:PE X e te) (hl:PO X lo tl) (hu:PO X hi th):PE X (.Subscript e (.Slice lo hi none p2) pos) (tSl r te tl th):=by
 intro pins s σ H Q I h
 refine Subscript_ (thn (he pins s σ H _ I h) fun v s1 ⟨x,H1,I1,r1,q1⟩=>?_)
 refine wpAny_Slice (thn (hl pins s1 σ H1 _ I1 q1) fun vl s2 ⟨l,H2,I2,pl,q2⟩=>thn (hu pins s2 σ H2 _ I2 q2) fun vu s3 ⟨u,H3,I3,pu,q3⟩=>?_)
 rw [evalPart_none]
 refine wpAny_pure ?_
 have I4:Inv X pins σ H3 { s3 with heap:=s3.heap.push { cls:=.type "slice",data:=.fields #[vl,vu,.none] } }:=I3.kept (t':=s3.toks) fun b ob q=>Heap.get?_push_of_some _ q
 obtain ⟨T,id,hT,ht,hg⟩:=hr pins { s3 with heap:=s3.heap.push { cls:=.type "slice",data:=.fields #[vl,vu,.none] } } σ H3 x v vl vu l u s3.heap.objs.size Q I4 r1 (Heap.IsSliceOf.new ..) pl pu q3
 show wpAny (model X.prog X.w) X.A (subscriptTail e (.Slice lo hi none p2) v (.ref s3.heap.objs.size)) (EP X pins σ Q) X.xe { s3 with heap:=s3.heap.push { cls:=.type "slice",data:=.fields #[vl,vu,.none] } }
 exact tail_any (ops:=[.ref s3.heap.objs.size,v]) ht hT hg (by with_unfolding_all rfl)
def cutV (xs:List V) (lo hi:Option Int):List V:=(xs.drop (HT.sIx xs.length 0 lo)).take (HT.sIx xs.length xs.length hi - HT.sIx xs.length 0 lo)
theorem cutV_length (xs:List V) (lo hi:Option Int):(cutV xs lo hi).length<=xs.length:=by
 unfold cutV
 rw [List.length_take,List.length_drop]
 (first|lia|omega)
def rSlT (K:PySem.W.Frag):V->Option Int->Option Int->Hp->VK->Prop:=fun x lo hi H Q=>∃ a xs,x=.ref a/\SqT K H a xs /\
 ¬ (HT.sIx xs.length 0 lo=0/\HT.sIx xs.length xs.length hi=xs.length)/\∀ p,H p=none->Q (.ref p) (upd H p (.tup (cutV xs lo hi)))
theorem sl_tup:SlR X (rSlT X.K):=by
 intro pins s σ H x v vl vu lo hi sl Q I rx hs pl pu h
 obtain ⟨a,xs,rfl,hx,hw,q⟩:=h
 cases rx
 obtain ⟨its,r,ht,hz⟩:=I.tuple hx
 have hlen:its.toArray.size=xs.length:=by rw [List.size_toArray]; exact r.length.symm
 refine ⟨"tuple",_,PyProof.Rows.slot_tuple_getitem.lookup,ht.typeIs,?_⟩
 refine HT.getItem_tuple_cut ht hs pl pu (by rw [hlen]; exact hw) ?_ (by rw [hlen]; exact hz)
 rw [hlen]
 refine ⟨.ref s.heap.objs.size,_,I.laid (t':=s.toks) (o:=.tup (cutV xs lo hi)) (fun b ob q=>Heap.get?_push_of_some _ q) (Nat.le_refl _) ?_,rfl,q _ (I.hok.fresh (Nat.le_refl _))⟩
 exact ⟨Nat.le_trans (cutV_length xs lo hi) hz,_,(r.drop (HT.sIx xs.length 0 lo)).take (HT.sIx xs.length xs.length hi - HT.sIx xs.length 0 lo),IsTup.new _ _,TupD.new rfl rfl⟩
def rCatT (K:PySem.W.Frag):R2:=fun x y H Q=>∃ a b xs ys,x=.ref a/\y=.ref b/\SqT K H a xs/\SqT K H b ys/\xs ≠ []/\xs.length + ys.length<=sizeLine /\
 (ys=[]->Q (.ref a) H)/\(ys ≠ []->∀ p,H p=none->Q (.ref p) (upd H p (.tup (xs ++ ys))))
theorem Vals.nil_iff {xs:List V} {us:List Value} (r:Vals xs us):us=[] ↔ xs=[]:=by
 cases r with
 | nil=>simp
 | cons _ _=>simp
theorem op_catT:OpR X (binaryOp .Add) (rCatT X.K):=by
 intro pins s σ H x y v u Q I rx ry h
 obtain ⟨a,b,xs,ys,rfl,rfl,ha,hb,hx,hz,q1,q2⟩:=h
 cases rx
 cases ry
 obtain ⟨its,r1,p1,_⟩:=I.tuple ha
 obtain ⟨its2,r2,p2,_⟩:=I.tuple hb
 refine HT.cat_tup p1 p2 (fun z=>hx (r1.nil_iff.mp z)) (fun z=>⟨.ref a,H,I,rfl,q1 (r2.nil_iff.mp z)⟩) (fun z=>?_) (by rw [<-r1.length,<-r2.length]; exact hz)
 refine ⟨.ref s.heap.objs.size,_,I.laid (t':=s.toks) (o:=.tup (xs ++ ys)) (fun b ob q=>Heap.get?_push_of_some _ q) (Nat.le_refl _) ?_,rfl,q2 (fun w=>z (r2.nil_iff.mpr w)) _ (I.hok.fresh (Nat.le_refl _))⟩
 exact ⟨by rw [List.length_append]; exact hz,_,r1.append r2,IsTup.new _ _,TupD.new rfl rfl⟩
end
end L2
namespace L2
open PySem PySem.Spec PyProof.Rows
def ixN (n:Nat) (i:Int):Option Nat:=if 0<=i then (if i < n then some i.toNat else none) else if -(n:Int)<=i then some (i + n).toNat else none
def atI {α:Type} (xs:List α) (i:Int):Option α:=(ixN xs.length i).bind fun j=>xs[j]?
theorem ixN_seq {n:Nat} {i:Int} {j:Nat} (h:ixN n i=some j):seqIndex? i n=some j/\j < n/\-(n:Int)<=i/\i < n:=by
 unfold ixN at h
 by_cases h0:0<=i
 ·rw [if_pos h0] at h
  by_cases h1:i < n
  ·rw [if_pos h1] at h
   have e:i.toNat=j:=Option.some.inj h
   exact ⟨by rw [seqIndex_of h0 h1,e],by (first|lia|omega),by (first|lia|omega),h1⟩
  ·rw [if_neg h1] at h; cases h
 ·rw [if_neg h0] at h
  by_cases h1:-(n:Int)<=i
  ·rw [if_pos h1] at h
   have e:(i + n).toNat=j:=Option.some.inj h
   exact ⟨by rw [seqIndex_neg (by (first|lia|omega)) h1,e],by (first|lia|omega),h1,by (first|lia|omega)⟩
  ·rw [if_neg h1] at h; cases h
theorem atI_get {α:Type} {xs:List α} {i:Int} {v:α} (h:atI xs i=some v):∃ j,seqIndex? i xs.length=some j/\xs[j]? = some v/\j < xs.length/\-(xs.length:Int)<=i/\i < xs.length:=by
 unfold atI at h
 cases e:ixN xs.length i with
 | none=>rw [e] at h; cases h
 | some j=>
  rw [e] at h
  obtain ⟨h1,h2,h3,h4⟩:=ixN_seq e
  exact ⟨j,h1,h,h2,h3,h4⟩
theorem atI_nat {α:Type} {xs:List α} {j:Nat} {v:α} (h:xs[j]? = some v):atI xs (j:Int)=some v:=by
 have hj:j < xs.length:=(List.getElem?_eq_some_iff.mp h).1
 have e:ixN xs.length (j:Int)=some j:=by
  unfold ixN
  rw [if_pos (by (first|lia|omega)),if_pos (by (first|lia|omega))]; simp
 unfold atI; rw [e]; exact h
def PlainIx (b:Expr):Prop:=∀ o i,subscripted b false o i=operate [o,i] (getItem o i)
def IxR (X:Cx) (r:R2):Prop:=
 ∀ (value slice:Expr) (pins:List (Addr × Obj)) (s:Shared) (σ:St) (H:Hp) (x y:V) (v u:Value) (Q:VK),Inv X pins σ H s->RelV x v->RelV y u->r x y H Q ->
  subscripted slice false v u=operate [v,u] (getItem v u)->wpAny (model X.prog X.w) X.A (subscriptTail value slice v u) (EP X pins σ Q) X.xe s
def MtR (X:Cx) (id:String) (r:V->List V->Hp->VK->Prop):Prop:=
 ∀ (pins:List (Addr × Obj)) (s:Shared) (σ:St) (H:Hp) (x:V) (xs:List V) (v:Value) (us:List Value) (Q:VK),Inv X pins σ H s->RelV x v->Vals xs us->r x xs H Q ->
  wpAny (model X.prog X.w) X.A (call (.builtin id) (v :: us)) (EP X pins σ Q) X.xe s
section
variable {X:Cx} {a b:Expr} {ta tb:TE} {pos:Pos}
theorem pe_ix {r:R2} (hr:IxR X r) (ha:PE X a ta) (hb:PE X b tb) (hs:PlainIx b):PE X (.Subscript a b pos) (tOp r ta tb):=by
 intro pins s σ H Q I h
 exact Subscript_ (binT ha hb I h fun v u s2 x y H2 I2 rx ry q=>hr a b pins s2 σ H2 x y v u Q I2 rx ry q (hs _ _))
def rIxL (K:PySem.W.Frag):R2:=fun x y H Q=>∃ p xs i v,x=.ref p/\y=.int i/\SqL K H p xs/\atI xs i=some v/\Q v H
def rIxT (K:PySem.W.Frag):R2:=fun x y H Q=>∃ p xs i v,x=.ref p/\y=.int i/\SqT K H p xs/\atI xs i=some v/\Q v H
def rIxS:R2:=fun x y H Q=>∃ z i c,x=.str z/\y=.int i/\z.length<=sizeLine/\atI z.cps.toList i=some c/\Q (.str ⟨#[c]⟩) H
theorem ix_list:IxR X (rIxL X.K):=by
 intro value slice pins s σ H x y v u Q I rx ry h hs
 obtain ⟨p,xs,i,z,rfl,rfl,hq,he,q⟩:=h
 cases rx
 obtain ⟨t,rfl⟩:=ry
 obtain ⟨its,r,pl,hz⟩:=I.list hq
 obtain ⟨j,h1,h2,h3,h4,h5⟩:=atI_get he
 obtain ⟨w,ew,rw'⟩:=r.get h2
 have hl:=r.length
 have hn:=line63
 have fin:EP X pins σ Q w s:=⟨z,H,I,rw',q⟩
 by_cases h0:0<=i
 ·have hj:i.toNat=j:=by
   rw [seqIndex_of h0 h5] at h1
   exact Option.some.inj h1
  exact item_listR pl.isList h0 (by (first|lia|omega)) (by rw [hj]; simpa using ew) fin hs
 ·have hj:(i + (its.toArray.size:Int)).toNat=j:=by
   rw [seqIndex_neg (by (first|lia|omega)) h4] at h1
   rw [List.size_toArray,<-hl]
   exact Option.some.inj h1
  exact subscriptTail_builtinR (x:=w) pl.isList.typeIs slot_list_getitem.lookup
   (wpAny_getItem_list_neg (Q:=fun r s'=>r=w/\EP X pins σ Q r s') pl.isList (by (first|lia|omega)) (by rw [List.size_toArray] <;> (first|lia|omega)) (by (first|lia|omega)) (by rw [hj]; simpa using ew) ⟨rfl,fin⟩) hs
theorem ix_tup:IxR X (rIxT X.K):=by
 intro value slice pins s σ H x y v u Q I rx ry h hs
 obtain ⟨p,xs,i,z,rfl,rfl,hq,he,q⟩:=h
 cases rx
 obtain ⟨t,rfl⟩:=ry
 obtain ⟨its,r,pl,hz⟩:=I.tuple hq
 obtain ⟨j,h1,h2,h3,h4,h5⟩:=atI_get he
 obtain ⟨w,ew,rw'⟩:=r.get h2
 have hl:=r.length
 have hn:=line63
 have fin:EP X pins σ Q w s:=⟨z,H,I,rw',q⟩
 exact subscriptTail_builtinR (x:=w) pl.typeIs slot_tuple_getitem.lookup
  (getItem_tuple (j:=j) (Q:=fun r s'=>r=w/\EP X pins σ Q r s') pl (by (first|lia|omega)) (by (first|lia|omega)) (by rw [List.size_toArray,<-hl]; exact h1) (by simpa using ew) ⟨rfl,fin⟩) hs
theorem ix_str:IxR X rIxS:=by
 intro value slice pins s σ H x y v u Q I rx ry h hs
 obtain ⟨z,i,c,rfl,rfl,hz,he,q⟩:=h
 obtain ⟨t,rfl⟩:=rx
 obtain ⟨t',rfl⟩:=ry
 obtain ⟨j,h1,h2,h3,h4,h5⟩:=atI_get he
 have hl:z.cps.toList.length=z.length:=by simp [Str.length]
 rw [hl] at h1 h4 h5
 have hn:=line63
 exact tail_any (typeIs_str s z t) slot_str_getitem.lookup (getItem_str (c:=c) (by
  have e1:decide (i < -(2 ^ 63:Int))=false:=decide_eq_false (by (first|lia|omega))
  have e2:decide (i >= 2 ^ 63)=false:=decide_eq_false (by (first|lia|omega))
  rw [e1,e2,Bool.or_false]) (by rw [h1]; simpa using h2) ⟨.str ⟨#[c]⟩,H,I.tok _,⟨_,rfl⟩,q⟩) hs
theorem mapSeq_set (its:List Value) (n j:Nat) (u:Value):Obj.mapSeq (·.setIfInBounds j u) { cls:=.type "list",data:=.seq its.toArray n } = { cls:=.type "list",data:=.seq (its.set j u).toArray n }:=by
 simp [Obj.mapSeq]
theorem Inv.lst {pins:List (Addr × Obj)} {σ:St} {H:Hp} {s:Shared} {p:Addr} {xs:List V} (I:Inv X pins σ H s) (h:H p=some (.lst xs)) :
  ∃ (its:List Value) (n:Nat),Vals xs its/\s.heap.get? p=some { cls:=.type "list",data:=.seq its.toArray n }/\xs.length<=sizeLine:=by
 obtain ⟨z,its,n,r,e⟩:=I.hok p _ h
 exact ⟨its,n,r,e,z⟩
theorem Inv.lstUpd {pins:List (Addr × Obj)} {σ:St} {H:Hp} {s:Shared} {p:Addr} {xs ys:List V} {its its':List Value} {n n':Nat} {f:Obj->Obj} (I:Inv X pins σ H s) (h:H p=some (.lst xs))
  (ho:s.heap.get? p=some { cls:=.type "list",data:=.seq its.toArray n }) (hf:f { cls:=.type "list",data:=.seq its.toArray n } = { cls:=.type "list",data:=.seq its'.toArray n' }) (r:Vals ys its') (hz:ys.length<=sizeLine) (t:Nat) :
  Inv X pins σ (upd H p (.lst ys)) { s with heap:=s.heap.update p f,toks:=t }:=by
 have e:(s.heap.update p f).get? p=some { cls:=.type "list",data:=.seq its'.toArray n' }:=by
  rw [Heap.get?_update_self f ho (by rw [hf] <;> rfl),hf]
 refine I.write (x:=p) (e:=p) (by rw [h]; trivial) (.inl rfl) (fun b u hb q=>(Heap.get?_update_other _ _ (Ne.symm hb)).trans q) ⟨_,e⟩ ?_
 exact ⟨hz,its',n',r,e⟩
def rSetL:V->V->V->Hp->(Hp->Prop)->Prop:=fun o i v H Q=>∃ p xs k j,o=.ref p/\i=.int k/\H p=some (.lst xs)/\ixN xs.length k=some j/\Q (upd H p (.lst (xs.set j v)))
theorem set_list:PSet X rSetL:=by
 intro pins s σ H o i v ov iv u Q I ro ri rv h
 obtain ⟨p,xs,k,j,rfl,rfl,hp,hj,q⟩:=h
 cases ro
 obtain ⟨t,rfl⟩:=ri
 obtain ⟨its,n,r,ho,hz⟩:=I.lst hp
 obtain ⟨h1,h2,h3,h4⟩:=ixN_seq hj
 have hl:=r.length
 have hn:=line63
 have I':Inv X pins σ (upd H p (.lst (xs.set j v))) { s with heap:=s.heap.update p (Obj.mapSeq (·.setIfInBounds j u)) }:=
  I.lstUpd hp ho (mapSeq_set its n j u) (r.set rv j) (by rw [List.length_set]; exact hz) s.toks
 by_cases h0:0<=k
 ·have hk:k.toNat=j:=by
   rw [seqIndex_of h0 h4] at h1
   exact Option.some.inj h1
  exact PySem.W.ki_setAt ho h0 (by (first|lia|omega)) (by rw [List.size_toArray,<-hl]; exact h4) (by rw [hk]; exact ⟨_,I',q⟩)
 ·have hk:(k + (its.toArray.size:Int)).toNat=j:=by
   rw [seqIndex_neg (by (first|lia|omega)) h3] at h1
   rw [List.size_toArray,<-hl]
   exact Option.some.inj h1
  exact PySem.W.ki_setBack ho (by (first|lia|omega)) (by rw [List.size_toArray,<-hl]; exact h3) (by (first|lia|omega)) (by rw [hk]; exact ⟨_,I',q⟩)
theorem slice_bounds (lo hi:Option Int) (n:Nat):(sliceBounds lo hi none n).1=((HT.sIx n 0 lo:Nat):Int)/\(sliceBounds lo hi none n).2.1=((HT.sIx n n hi:Nat):Int)/\(sliceBounds lo hi none n).2.2=1:=by
 refine ⟨?_,?_,rfl⟩
 ·cases lo with
  | none=>simp [sliceBounds,HT.sIx]
  | some i=>
   simp only [sliceBounds,HT.sIx,Option.getD_none,show (1:Int) > 0 by decide,if_true]
   by_cases h:i < 0
   ·simp only [h,if_true] <;> (first|lia|omega)
   ·simp only [h,if_false] <;> (first|lia|omega)
 ·cases hi with
  | none=>simp [sliceBounds,HT.sIx]
  | some i=>
   simp only [sliceBounds,HT.sIx,Option.getD_none,show (1:Int) > 0 by decide,if_true]
   by_cases h:i < 0
   ·simp only [h,if_true] <;> (first|lia|omega)
   ·simp only [h,if_false] <;> (first|lia|omega)
theorem slicePick_cut (its:List Value) (lo hi:Option Int):slicePick its.toArray lo hi none=((its.drop (HT.sIx its.length 0 lo)).take (HT.sIx its.length its.length hi - HT.sIx its.length 0 lo)).toArray:=by
 obtain ⟨h1,h2,h3⟩:=slice_bounds lo hi its.toArray.size
 unfold slicePick
 rw [h1,h2,h3]
 simp only [sliceRange_one,pick_run,List.size_toArray] <;> rfl
def rSlL (K:PySem.W.Frag):V->Option Int->Option Int->Hp->VK->Prop:=fun x lo hi H Q=>∃ a xs,x=.ref a/\SqL K H a xs/\∀ p,H p=none->Q (.ref p) (upd H p (.lst (cutV xs lo hi)))
theorem sl_list:SlR X (rSlL X.K):=by
 intro pins s σ H x v vl vu lo hi sl Q I rx hs pl pu h
 obtain ⟨a,xs,rfl,hx,q⟩:=h
 cases rx
 obtain ⟨its,r,ht,hz⟩:=I.list hx
 have hlen:=r.length
 refine ⟨"list",_,slot_list_getitem.lookup,ht.isList.typeIs,?_⟩
 refine wpAny_getItem_list_slice ht.isList hs pl pu .none (by simp) ?_ (by rw [List.size_toArray] <;> (first|lia|omega))
 rw [slicePick_cut,<-hlen]
 refine ⟨.ref s.heap.objs.size,_,I.laid (t':=s.toks) (o:=.lst (cutV xs lo hi)) (fun b ob q=>Heap.get?_push_of_some _ q) (Nat.le_refl _) ?_,rfl,q _ (I.hok.fresh (Nat.le_refl _))⟩
 exact ⟨Nat.le_trans (cutV_length xs lo hi) hz,_,0,(r.drop (HT.sIx xs.length 0 lo)).take (HT.sIx xs.length xs.length hi - HT.sIx xs.length 0 lo),Heap.get?_push_size _ rfl⟩
theorem call_len_seq:CallR X (.builtin "len") (fun xs H Q=>∃ p ys,xs=[.ref p]/\(SqL X.K H p ys\/SqT X.K H p ys)/\Q (.int ys.length) H):=by
 intro pins s σ H xs us Q I r h
 obtain ⟨p,ys,rfl,hq,q⟩:=h
 obtain ⟨u,rfl,rx⟩:=vals1 r
 cases rx
 have hn:=line63
 rcases hq with hq | hq
 ·obtain ⟨its,r',pl,hz⟩:=I.list hq
  have hlen:=r'.length
  exact Calls.call_len_list pl.isList (by simp only [List.size_toArray] <;> (first|lia|omega)) ⟨.int ys.length,H,I.tok _,⟨s.toks + 1,by rw [List.size_toArray,hlen]⟩,q⟩
 ·obtain ⟨its,r',pl,hz⟩:=I.tuple hq
  have hlen:=r'.length
  exact len_tuple pl (by simp only [List.size_toArray] <;> (first|lia|omega)) ⟨.int ys.length,H,I.tok _,⟨s.toks + 1,by rw [List.size_toArray,hlen]⟩,q⟩
theorem call_len_str:CallR X (.builtin "len") (fun xs H Q=>∃ z,xs=[.str z]/\z.length<=sizeLine/\Q (.int z.length) H):=by
 intro pins s σ H xs us Q I r h
 obtain ⟨z,rfl,hz,q⟩:=h
 obtain ⟨u,rfl,t,rfl⟩:=vals1 r
 have hn:=line63
 exact len_str (by (first|lia|omega)) ⟨.int z.length,H,I.tok _,⟨_,rfl⟩,q⟩
theorem call_list_of:CallR X (.type "list") (fun xs H Q=>∃ p ys,xs=[.ref p]/\(SqL X.K H p ys\/SqT X.K H p ys)/\∀ l,H l=none->Q (.ref l) (upd H l (.lst ys))):=by
 intro pins s σ H xs us Q I r h
 obtain ⟨p,ys,rfl,hq,q⟩:=h
 obtain ⟨u,rfl,rx⟩:=vals1 r
 cases rx
 have fin:∀ (its:List Value),Vals ys its->ys.length<=sizeLine->∀ (h':Heap) (c':Nat),(∀ b o',s.heap.get? b=some o'->h'.get? b=some o') ->
   h'.get? s.heap.objs.size=some { cls:=.type "list",dict:=none,data:=.seq its.toArray c',slots:=#[] }->EP X pins σ Q (.ref s.heap.objs.size) { s with heap:=h' }:=fun its r' hz h' c' kp e=>
  ⟨.ref s.heap.objs.size,_,I.laid (t':=s.toks) kp (Nat.le_refl _) (show ObjOk X.prog X.w _ h' _ (.lst ys) from ⟨hz,its,c',r',e⟩),rfl,q _ (I.hok.fresh (Nat.le_refl _))⟩
 rcases hq with hq | hq
 ·obtain ⟨its,r',pl,hz⟩:=I.list hq
  have hlen:=r'.length
  obtain ⟨o,ho,hc,n,hd⟩:=pl.isList
  exact call_list_seq p (.inl rfl) ho hc hd (fun h' c' kp e=>fin its r' hz h' c' kp e) (by simp only [List.size_toArray] <;> (first|lia|omega))
 ·obtain ⟨its,r',pl,hz⟩:=I.tuple hq
  have hlen:=r'.length
  obtain ⟨o,ho,hc,n,hd⟩:=pl
  exact call_list_seq p (.inr rfl) ho hc hd (fun h' c' kp e=>fin its r' hz h' c' kp e) (by simp only [List.size_toArray] <;> (first|lia|omega))
theorem call_tuple_of:CallR X (.type "tuple") (fun xs H Q=>∃ p ys,xs=[.ref p]/\((SqL X.K H p ys/\∀ l,H l=none->Q (.ref l) (upd H l (.tup ys)))\/(SqT X.K H p ys/\Q (.ref p) H))):=by
 intro pins s σ H xs us Q I r h
 obtain ⟨p,ys,rfl,h⟩:=h
 obtain ⟨u,rfl,rx⟩:=vals1 r
 cases rx
 rcases h with ⟨hq,q⟩ | ⟨hq,q⟩
 ·obtain ⟨its,r',pl,hz⟩:=I.list hq
  have hlen:=r'.length
  refine call_tuple_list pl.isList (fun h' kp=>?_) (by simp only [List.size_toArray] <;> (first|lia|omega))
  have I1:Inv X pins σ H { s with heap:=h' }:=I.kept (t':=s.toks) kp
  have I2:Inv X pins σ (upd H h'.objs.size (.tup ys)) { s with heap:=h'.push { cls:=.type "tuple",data:=.seq its.toArray } }:=
   I1.laid (t':=s.toks) (fun b o e=>Heap.get?_push_of_some _ e) (Nat.le_refl _) (show ObjOk X.prog X.w _ _ _ (.tup ys) from ⟨hz,its,r',IsTup.new _ _,TupD.new rfl rfl⟩)
  exact ⟨.ref h'.objs.size,_,I2,rfl,q _ (I1.hok.fresh (Nat.le_refl _))⟩
 ·obtain ⟨its,r',pl,hz⟩:=I.tuple hq
  exact call_tuple_same pl ⟨.ref p,H,I,rfl,q⟩
def tyV (K:PySem.W.Frag) (T:String) (x:V) (H:Hp):Prop:=match x with
 | .str _=>T="str"
 | .int _=>T="int"
 | .ref p=>(T="list"/\∃ xs,SqL K H p xs)\/(T="tuple"/\∃ o,K.lookup p=some o/\o.cls=.type "tuple"/\o.dict=none) \/
   (T="dict"/\((∃ kvs,H p=some (.dK kvs))\/∃ kvs,H p=some (.dT kvs)))\/(T="set"/\∃ S n,H p=some (.set S n))
 | _=>False
theorem tyV_is {pins:List (Addr × Obj)} {σ:St} {H:Hp} {s:Shared} {T:String} {x:V} {v:Value} (I:Inv X pins σ H s) (r:RelV x v) (ty:tyV X.K T x H) :
  s.TypeIs v T/\∀ a,v=.ref a->∃ ob,s.heap.get? a=some ob/\ob.dict=none:=by
 cases x with
 | str z=>
  obtain ⟨t,rfl⟩:=r
  cases (show T="str" from ty)
  exact ⟨typeIs_str s z t,fun _ e=>nomatch e⟩
 | int i=>
  obtain ⟨t,rfl⟩:=r
  cases (show T="int" from ty)
  exact ⟨typeIs_int s i t,fun _ e=>nomatch e⟩
 | ref p=>
  cases r
  rcases ty with ⟨rfl,xs,hq⟩ | ⟨rfl,o,hk,hc,hd⟩ | ⟨rfl,hk⟩ | ⟨rfl,S,n,hk⟩
  ·obtain ⟨its,_,pl,_⟩:=I.list hq
   refine ⟨pl.isList.typeIs,fun a e=>?_⟩
   cases e
   obtain ⟨o,n,e,c,hd,_⟩:=pl
   exact ⟨o,e,hd⟩
  ·refine ⟨⟨o,I.kIn p o hk,hc⟩,fun a e=>?_⟩
   cases e
   exact ⟨o,I.kIn _ o hk,hd⟩
  ·have z:∃ o,s.heap.get? p=some o/\o.ExactDict:=by
    rcases hk with ⟨kvs,hk⟩ | ⟨kvs,hk⟩
    ·obtain ⟨_,_,_,_,o,_,_,e,ex,_⟩:=I.hok p _ hk
     exact ⟨o,e,ex⟩
    ·obtain ⟨_,_,_,_,o,_,_,e,ex,_⟩:=I.hok p _ hk
     exact ⟨o,e,ex⟩
   obtain ⟨o,e,ex⟩:=z
   refine ⟨⟨o,e,ex.1⟩,fun a e2=>?_⟩
   cases e2
   exact ⟨o,e,ex.2.1⟩
  ·obtain ⟨o,_,_,_,e,ex,_⟩:=I.hok p _ hk
   refine ⟨⟨o,e,ex.1⟩,fun a e2=>?_⟩
   cases e2
   exact ⟨o,e,ex.2.1⟩
 | _=>exact False.elim ty
def tBM0 (K:PySem.W.Frag) (T:String) (r:V->List V->Hp->VK->Prop) (to:TE):TE:=fun σ H Q=>to σ H fun x H1=>tyV K T x H1/\r x [] H1 Q
def tBM (K:PySem.W.Frag) (T:String) (r:V->List V->Hp->VK->Prop) (to:TE) (t:TA):TE:=fun σ H Q=>to σ H fun x H1=>tyV K T x H1/\t σ H1 fun xs H2=>r x xs H2 Q
variable {o e:Expr} {es:List Expr} {to:TE} {t:TA} {name:Str} {apos cpos:Pos} {T id:String} {r:V->List V->Hp->VK->Prop}
theorem pe_bm0 (pa:PlainAttrs T) (slot:Slot T name id) (hty:typeOf (.builtin id)=pure (.type "method_descriptor")) (hm:MtR X id r) (ho:PE X o to)
  (hbase:attributeBase o name X.env (eval o X.env)=eval o X.env:=by rfl) (hline:(apos.endLine == cpos.line)=true:=by rfl):PE X (.Call (.Attribute o name apos) [] [] cpos) (tBM0 X.K T r to):=by
 intro pins s σ H Q I h
 refine wpAny_Call_method0_late hbase hline (thn (ho pins s σ H _ I h) fun v s1 ⟨x,H1,I1,r1,ty,q1⟩=>?_)
 obtain ⟨h1,h2⟩:=tyV_is I1 r1 ty
 exact ⟨T,id,pa,slot,hty,h1,h2,Calls.callWith_builtin rfl (PySem.evalArgs_none (hm pins s1 σ H1 x [] v [] Q I1 r1 .nil q1))⟩
theorem pe_bm (pa:PlainAttrs T) (slot:Slot T name id) (hty:typeOf (.builtin id)=pure (.type "method_descriptor")) (hm:MtR X id r) (ho:PE X o to) (ha:PA X (e :: es) t)
  (hbase:attributeBase o name X.env (eval o X.env)=eval o X.env:=by rfl)
  (hfew:((backTo cpos (starEach (e :: es) X.env)).all (fun x=>!x.1) && (backToKw cpos (keywordEach [] X.env)).all (fun x=>x.1.isSome)
   && decide ((e :: es).length + ([]:List Keyword).length + (if ([]:List Keyword).isEmpty then 0 else 1) < 30))=true:=by rfl)
  (hline:(apos.endLine == cpos.line)=true:=by rfl) (hs:starEach (e :: es) X.env=(false,eval e X.env) :: starEach es X.env:=by rfl) (hplain:(backTo cpos (starEach es X.env)).any (·.1)=false:=by rfl) :
  PE X (.Call (.Attribute o name apos) (e :: es) [] cpos) (tBM X.K T r to t):=by
 intro pins s σ H Q I h
 refine wpAny_Call_method_late hbase hfew hline rfl (thn (ho pins s σ H _ I h) fun v s1 ⟨x,H1,I1,r1,ty,q1⟩=>?_)
 obtain ⟨h1,h2⟩:=tyV_is I1 r1 ty
 refine ⟨T,id,pa,slot,hty,h1,h2,?_⟩
 have hA:=ha cpos pins s1 σ H1 _ I1 q1
 rw [hs] at hA ⊢
 refine Calls.callWith_builtin (by show (false || (backTo cpos (starEach es X.env)).any (·.1))=false; rw [hplain] <;> rfl) (Calls.evalArgs_plain ?_)
 exact thn hA fun us s2 ⟨vs,H2,I2,r2,q2⟩=>hm pins s2 σ H2 x vs v us Q I2 r1 r2 q2
end
end L2
namespace L2
open PySem PySem.Spec PyProof.Rows
def MtM (X:Cx) (id:String) (r:V->List V->Hp->VK->Prop):Prop:=
 ∀ (pins:List (Addr × Obj)) (s:Shared) (σ:St) (H:Hp) (x:V) (xs:List V) (v:Value) (us:List Value) (Q:VK),Inv X pins σ H s->RelV x v->Vals xs us->r x xs H Q ->
  wpAny (model X.prog X.w) X.A (call (.builtin id) (v :: us)) (EP X pins σ Q) X.xe s
theorem Vals.one:∀ {x:V} {us:List Value},Vals [x] us->∃ u,us=[u]/\RelV x u
 | _,_,.cons r .nil=>⟨_,rfl,r⟩
theorem Vals.zero:∀ {us:List Value},Vals [] us->us=[]
 | _,.nil=>rfl
theorem Vals.eraseIdx:∀ {xs:List V} {us:List Value} (i:Nat),Vals xs us->Vals (xs.eraseIdx i) (us.eraseIdx i)
 | _,_,_,.nil=>.nil
 | _,_,0,.cons _ t=>t
 | _,_,i + 1,.cons r t=>.cons r (Vals.eraseIdx i t)
theorem len_erase {α:Type}:∀ (l:List α) (i:Nat),(l.eraseIdx i).length<=l.length
 | [],_=>Nat.le_refl _
 | _ :: _,0=>Nat.le_succ _
 | _ :: r,i + 1=>Nat.succ_le_succ (len_erase r i)
section
variable {X:Cx} {pins:List (Addr × Obj)} {σ:St} {H:Hp} {s:Shared} {l b:Addr} {xs ys zs:List V}
theorem Inv.lset {its its':List Value} {n:Nat} {f:Array Value->Array Value} {t':Nat} (I:Inv X pins σ H s) (hH:H l=some (.lst xs))
  (e:s.heap.get? l=some { cls:=.type "list",data:=.seq its.toArray n }) (hf:f its.toArray=its'.toArray) (hv:Vals ys its') (hz:ys.length<=sizeLine) :
  Inv X pins σ (upd H l (.lst ys)) { s with heap:=s.heap.update l (Obj.mapSeq f),toks:=t' }:=by
 have q:=PySem.IsL.update e f
 rw [hf] at q
 refine I.write (x:=l) (e:=l) (by rw [hH]; exact trivial) (.inl rfl) (fun b' u hb hu=>(Heap.get?_update_other s.heap (Obj.mapSeq f) (Ne.symm hb)).trans hu) ⟨_,q⟩ ?_
 exact ⟨hz,its',_,hv,q⟩
theorem Inv.lnew {its:List Value} {t':Nat} (I:Inv X pins σ H s) (hv:Vals ys its) (hz:ys.length<=sizeLine) :
  Inv X pins σ (upd H s.heap.objs.size (.lst ys)) { s with heap:=s.heap.push { cls:=.type "list",data:=.seq its.toArray },toks:=t' }:=
 I.laid (fun _ _ q=>Heap.get?_push_of_some _ q) (Nat.le_refl _) ⟨hz,its,0,hv,Heap.get?_push_size _ rfl⟩
theorem Inv.fresh (I:Inv X pins σ H s):H s.heap.objs.size=none:=I.hok.fresh (Nat.le_refl _)
theorem Inv.lstM (I:Inv X pins σ H s) (hH:H l=some (.lst xs)):xs.length<=sizeLine/\∃ (its:List Value) (n:Nat),Vals xs its/\xs.length=its.length/\s.heap.get? l=some { cls:=.type "list",data:=.seq its.toArray n }:=by
 obtain ⟨z,its,n,r,e⟩:=I.hok l _ hH
 exact ⟨z,its,n,r,r.length,e⟩
end
section
variable {X:Cx}
def rAppend:V->List V->Hp->VK->Prop:=fun x vs H Q=>∃ l xs y,x=.ref l/\vs=[y]/\H l=some (.lst xs)/\xs.length < sizeLine/\Q .non (upd H l (.lst (xs ++ [y])))
theorem mt_append:MtM X "list.append" rAppend:=by
 intro pins s σ H x vs v us Q I rx rv h
 obtain ⟨l,xs,y,rfl,rfl,hH,hz,q⟩:=h
 cases rx
 obtain ⟨u,rfl,ru⟩:=rv.one
 obtain ⟨z,its,n,r,hl,e⟩:=I.lstM hH
 refine call_meets F.slot_list_append ⟨_,e,rfl⟩ F.entry_list_append (F.args_list_append_2 _ _) (PySem.list_append l its.toArray n u (by rw [List.size_toArray]; (first|lia|omega))) ⟨e,?_⟩
 refine ⟨.non,_,I.lset (its':=its ++ [u]) hH e (by simp) (r.append (.cons ru .nil)) ?_,rfl,q⟩
 rw [List.length_append,List.length_singleton]
 (first|lia|omega)
def rPopAt:V->List V->Hp->VK->Prop:=fun x vs H Q=>∃ l xs i k y,x=.ref l/\vs=[.int i]/\H l=some (.lst xs)/\-(2 ^ 63)<=i/\i < 2 ^ 63/\seqIndex? i xs.length=some k/\xs[k]? = some y/\Q y (upd H l (.lst (xs.eraseIdx k)))
theorem mt_popAt:MtM X "list.pop" rPopAt:=by
 intro pins s σ H x vs v us Q I rx rv h
 obtain ⟨l,xs,i,k,y,rfl,rfl,hH,h1,h2,hk,hy,q⟩:=h
 cases rx
 obtain ⟨u,rfl,ru⟩:=rv.one
 obtain ⟨t,rfl⟩:=ru
 obtain ⟨z,its,n,r,hl,e⟩:=I.lstM hH
 obtain ⟨w,hw,rw'⟩:=r.get hy
 refine call_meets F.slot_list_pop ⟨_,e,rfl⟩ F.entry_list_pop (F.args_list_pop_2 _ _)
  (MeetsSeq.list_pop_at l its.toArray n i t k w (fitsIndex_both h1 h2) (by rw [List.size_toArray,<-hl]; exact hk) (by rw [<-Array.getElem?_toList]; exact hw) (by rw [List.size_toArray]; (first|lia|omega))) ⟨e,?_⟩
 refine ⟨y,_,I.lset (its':=its.eraseIdx k) hH e ?_ (r.eraseIdx k) ?_,rw',q⟩
 ·show its.toArray.eraseIdxIfInBounds k=(its.eraseIdx k).toArray
  rw [List.eraseIdxIfInBounds_toArray]
 ·have:=len_erase xs k
  (first|lia|omega)
def rClear:V->List V->Hp->VK->Prop:=fun x vs H Q=>∃ l xs,x=.ref l/\vs=[]/\H l=some (.lst xs)/\Q .non (upd H l (.lst []))
theorem mt_clear:MtM X "list.clear" rClear:=by
 intro pins s σ H x vs v us Q I rx rv h
 obtain ⟨l,xs,rfl,rfl,hH,q⟩:=h
 cases rx
 have hus:=rv.zero
 subst hus
 obtain ⟨z,its,n,r,hl,e⟩:=I.lstM hH
 refine call_meets F.slot_list_clear ⟨_,e,rfl⟩ F.entry_list_clear (F.args_list_clear_1 _) (AutoSeq1.list_clear_list_0 l its.toArray n (by rw [List.size_toArray]; (first|lia|omega))) ⟨e,?_⟩
 exact ⟨.non,_,I.lset (its':=[]) (ys:=[]) hH e rfl .nil (Nat.zero_le _),rfl,q⟩
def rCat:R2:=fun x y H Q=>∃ l b xs zs,x=.ref l/\y=.ref b/\H l=some (.lst xs)/\H b=some (.lst zs)/\xs.length + zs.length<=sizeLine/\∀ p,H p=none->Q (.ref p) (upd H p (.lst (xs ++ zs)))
theorem op_cat:OpR X (binaryOp .Add) rCat:=by
 intro pins s σ H x y v u Q I rx ry h
 obtain ⟨l,b,xs,zs,rfl,rfl,hH,hB,hz,q⟩:=h
 cases rx
 cases ry
 obtain ⟨z,its,n,r,hl,e⟩:=I.lstM hH
 obtain ⟨z2,its2,n2,r2,hl2,e2⟩:=I.lstM hB
 refine PySem.P.add_list e e2 ?_ (by rw [List.size_toArray,List.size_toArray]; (first|lia|omega))
 have ea:its.toArray ++ its2.toArray=(its ++ its2).toArray:=by simp
 rw [ea]
 exact ⟨.ref _,_,I.lnew (t':=s.toks) (r.append r2) (by rw [List.length_append]; (first|lia|omega)),rfl,q _ I.fresh⟩
end
section
variable {prog:Program} {w:World} {A:Around} {E:Value->Shared->Prop} {s:Shared}
set_option maxRecDepth 100000 in
end
section
variable {X:Cx}
end
end L2
namespace L2
open PySem PySem.Spec PyProof.Rows
section
variable {κ:Type} [DecidableEq κ]
def valV (kvs:List (κ × V)) (k:κ):Option V:=(kvs.find? fun kv=>decide (kv.1=k)).map (·.2)
def putK (kvs:List (κ × V)) (k:κ) (v:V):List (κ × V):=
 if (kvs.any fun kv=>decide (kv.1=k))=true then kvs.map (fun kv=>if kv.1=k then (kv.1,v) else kv) else kvs ++ [(k,v)]
theorem valV_pos {p:κ × V} {r:List (κ × V)} {k:κ} (e:p.1=k):valV (p :: r) k=some p.2:=by simp [valV,List.find?_cons,e]
theorem valV_neg {p:κ × V} {r:List (κ × V)} {k:κ} (e:¬ p.1=k):valV (p :: r) k=valV r k:=by simp [valV,List.find?_cons,e]
theorem valV_any (k:κ):∀ kvs:List (κ × V),(kvs.any fun kv=>decide (kv.1=k))=(valV kvs k).isSome
 | []=>rfl
 | p :: r=>by
  rw [List.any_cons]
  by_cases e:p.1=k
  ·simp only [valV_pos e,decide_eq_true e,Bool.true_or,Option.isSome_some]
  ·rw [valV_neg e,decide_eq_false e,Bool.false_or]; exact valV_any k r
theorem length_putK (kvs:List (κ × V)) (k:κ) (v:V):(putK kvs k v).length<=kvs.length + 1:=by
 unfold putK
 split
 ·rw [List.length_map]; (first|lia|omega)
 ·rw [List.length_append,List.length_cons,List.length_nil]; (first|lia|omega)
theorem putK_new {kvs:List (κ × V)} {k:κ} (v:V) (h:valV kvs k=none):putK kvs k v=kvs ++ [(k,v)]:=by
 unfold putK
 rw [valV_any,h]
 exact if_neg (by decide)
theorem RelO.isSome_eq {o:Option V} {u:Option Value} (r:RelO o u):o.isSome=u.isSome:=by
 cases o with
 | none=>cases u with
  | none=>rfl
  | some _=>exact (show False from r).elim
 | some _=>cases u with
  | none=>exact (show False from r).elim
  | some _=>rfl
theorem KV.val {kvs:List (κ × V)} {vs:List (κ × Value)} (r:KV kvs vs) (k:κ):RelO (valV kvs k) (valueAt vs k):=by
 unfold KV at r
 induction r with
 | nil=>exact True.intro
 | @cons p q ps qs h t ih=>
  obtain ⟨h1,h2⟩:=h
  by_cases e:p.1=k
  ·have e':q.1=k:=h1.symm.trans e
   have b:valueAt (q :: qs) k=some q.2:=by simp [valueAt,List.find?_cons,e']
   rw [valV_pos e,b]; exact h2
  ·have e':¬ q.1=k:=fun z=>e (h1.trans z)
   have b:valueAt (q :: qs) k=valueAt qs k:=by simp [valueAt,List.find?_cons,e']
   rw [valV_neg e,b]; exact ih
theorem KV.any {kvs:List (κ × V)} {vs:List (κ × Value)} (r:KV kvs vs) (k:κ):(kvs.any fun kv=>decide (kv.1=k))=vs.any fun kv=>decide (kv.1=k):=by
 unfold KV at r
 induction r with
 | nil=>rfl
 | cons h t ih=>rw [List.any_cons,List.any_cons,ih,h.1]
theorem KV.repl {kvs:List (κ × V)} {vs:List (κ × Value)} (r:KV kvs vs) (k:κ) {y:V} {u:Value} (ry:RelV y u) :
  KV (kvs.map fun kv=>if kv.1=k then (kv.1,y) else kv) (vs.map fun kv=>if kv.1=k then (kv.1,u) else kv):=by
 unfold KV at r ⊢
 induction r with
 | nil=>exact .nil
 | @cons p q ps qs h t ih=>
  rw [List.map_cons,List.map_cons]
  refine .cons ?_ ih
  obtain ⟨h1,h2⟩:=h
  by_cases e:p.1=k
  ·rw [if_pos e,if_pos (h1.symm.trans e)]; exact ⟨h1,ry⟩
  ·rw [if_neg e,if_neg (fun z=>e (h1.trans z))]; exact ⟨h1,h2⟩
theorem KV.put {kvs:List (κ × V)} {vs:List (κ × Value)} (r:KV kvs vs) (k:κ) {y:V} {u:Value} (ry:RelV y u):KV (putK kvs k y) (stored vs k u):=by
 unfold putK stored
 rw [r.any k]
 by_cases e:(vs.any fun kv=>decide (kv.1=k))=true
 ·rw [if_pos e,if_pos e]; exact r.repl k ry
 ·rw [if_neg e,if_neg e]; exact Paired.snoc r ⟨rfl,ry⟩
theorem KV.length {kvs:List (κ × V)} {vs:List (κ × Value)} (r:KV kvs vs):kvs.length=vs.length:=Paired.length r
end
theorem kV_is {P:Program} {w:World} {k:Key} {u:Value} (r:RelV (kV k) u):(mixKind P w).is k u=true:=by
 cases k with
 | inl i=>obtain ⟨t,e⟩:=(show ∃ t,u=Value.int i t from r); subst e; exact mixKind_int P w i t
 | inr x=>obtain ⟨t,e⟩:=(show ∃ t,u=Value.str x t from r); subst e; exact mixKind_str P w x t
theorem items_are {P:Program} {w:World}:∀ {ks:List Key} {us:List Value},Vals (ks.map kV) us->ItemsAre (mixKind P w) ks us
 | [],_,r=>by rw [List.map_nil] at r; cases r; exact .nil
 | k :: ks,_,r=>by
  rw [List.map_cons] at r
  cases r with
  | cons h t=>exact .cons (kV_is h) (items_are t)
abbrev KT (H:Hp):List (List Key × V)->List (List Key × Addr × Value)->Prop:=Paired fun p q=>p.1=q.1/\H q.2.1=some (.tup (p.1.map kV))/\RelV p.2 q.2.2
theorem KT.val {H:Hp} {kvs:List (List Key × V)} {xs:List (List Key × Addr × Value)} (r:KT H kvs xs) (k:List Key):RelO (valV kvs k) ((atKey xs k).map (·.2)):=by
 induction r with
 | nil=>exact True.intro
 | @cons p q ps qs h t ih=>
  obtain ⟨h1,_,h2⟩:=h
  by_cases e:p.1=k
  ·have e':q.1=k:=h1.symm.trans e
   have b:atKey (q :: qs) k=some q.2:=by simp [atKey,List.find?_cons,e']
   rw [valV_pos e,b]; exact h2
  ·have e':¬ q.1=k:=fun z=>e (h1.trans z)
   have b:atKey (q :: qs) k=atKey qs k:=by simp [atKey,List.find?_cons,e']
   rw [valV_neg e,b]; exact ih
theorem KT.repl {H:Hp} {kvs:List (List Key × V)} {xs:List (List Key × Addr × Value)} (r:KT H kvs xs) (k:List Key) {y:V} {u:Value} (ry:RelV y u) :
  KT H (kvs.map fun kv=>if kv.1=k then (kv.1,y) else kv) (xs.map (putAt k u)):=by
 induction r with
 | nil=>exact .nil
 | @cons p q ps qs h t ih=>
  rw [List.map_cons,List.map_cons]
  refine .cons ?_ ih
  obtain ⟨h1,h2,h3⟩:=h
  unfold putAt
  by_cases e:p.1=k
  ·rw [if_pos e,if_pos (h1.symm.trans e)]; exact ⟨h1,h2,ry⟩
  ·rw [if_neg e,if_neg (fun z=>e (h1.trans z))]; exact ⟨h1,h2,h3⟩
theorem KT.put {H:Hp} {kvs:List (List Key × V)} {xs:List (List Key × Addr × Value)} (r:KT H kvs xs) (k:List Key) {b:Addr} {y:V} {u:Value} (hb:H b=some (.tup (k.map kV))) (ry:RelV y u) :
  KT H (putK kvs k y) (storedH xs k b u):=by
 have e:(kvs.any fun kv=>decide (kv.1=k))=(atKey xs k).isSome:=by
  rw [valV_any,(r.val k).isSome_eq,Option.isSome_map]
 unfold putK storedH
 rw [e]
 by_cases q:(atKey xs k).isSome=true
 ·rw [if_pos q,if_pos q]; exact r.repl k ry
 ·rw [if_neg q,if_neg q]; exact Paired.snoc r ⟨rfl,hb,ry⟩
theorem KT.keeps {H H':Hp} {kvs:List (List Key × V)} {xs:List (List Key × Addr × Value)} (r:KT H kvs xs) (ht:∀ b ys,H b=some (.tup ys)->H' b=some (.tup ys)):KT H' kvs xs:=
 Paired.mapP r fun _ _ z=>⟨z.1,ht _ _ z.2.1,z.2.2⟩
section
variable {P:Program} {w:World} {H:Hp} {h:Heap} {a:Addr}
theorem rd_of {u:HO} (ok:HOk P w H h) (e:Rd H a u):ObjOk P w H h a u:=e.ok ok
theorem dk_rd {kvs:List (Key × V)} (ok:HOk P w H h) (e:Rd H a (.dK kvs)):kvs.length<=sizeLine/\(a == sysModules)=false/\∃ vs,KV kvs vs/\h.DictOf (mixKind P w) a vs:=
 show ObjOk P w H h a (.dK kvs) from rd_of ok e
theorem dk_of {kvs:List (Key × V)} (ok:HOk P w H h) (e:H a=some (.dK kvs)):kvs.length<=sizeLine/\(a == sysModules)=false/\∃ vs,KV kvs vs/\h.DictOf (mixKind P w) a vs:=dk_rd ok (.inl e)
theorem key_of {ks:List Key} (ok:HOk P w H h) (e:H a=some (.tup (ks.map kV))):(tupleKind (mixKind P w)).is h ks a:=by
 obtain ⟨_,its,r,⟨o,h1,h2,n,h3⟩,_⟩:=(show ObjOk P w H h a (.tup (ks.map kV)) from ok a _ e)
 exact ⟨o,its.toArray,n,h1,h2,h3,by simpa using items_are r⟩
theorem dt_rd {kvs:List (List Key × V)} (ok:HOk P w H h) (e:Rd H a (.dT kvs)):kvs.length<=sizeLine/\(a == sysModules)=false /\
  ∃ xs,KT H kvs xs/\h.DictOfH (tupleKind (mixKind P w)) a xs:=by
 obtain ⟨z,y,xs,r,o,es,ep,h1,h2,h3,h4,h5⟩:=(show ObjOk P w H h a (.dT kvs) from rd_of ok e)
 refine ⟨z,y,xs,r,o,es,ep,h1,h2,h3,h4,fun x hx=>?_,h5⟩
 have all:∀ {l:List (List Key × V)} {m:List (List Key × Addr × Value)},KT H l m->∀ x ∈ m,(tupleKind (mixKind P w)).is h x.1 x.2.1:=by
  intro l m q
  induction q with
  | nil=>intro x hx; exact nomatch hx
  | @cons p q ps qs hq t ih=>
   intro x hx
   rcases List.mem_cons.mp hx with e | hx
   ·subst e
    exact key_of ok (by rw [<-hq.1]; exact hq.2.1)
   ·exact ih x hx
 exact all r x hx
theorem dt_of {kvs:List (List Key × V)} (ok:HOk P w H h) (e:H a=some (.dT kvs)):kvs.length<=sizeLine/\(a == sysModules)=false /\
  ∃ xs,KT H kvs xs/\h.DictOfH (tupleKind (mixKind P w)) a xs:=dt_rd ok (.inl e)
end
def DGet (H:Hp) (a:Addr) (y:V) (r:Option V):Prop:=
 (∃ kvs k,Rd H a (.dK kvs)/\y=kV k/\r=valV kvs k)\/∃ kvs k b,Rd H a (.dT kvs)/\y=.ref b/\H b=some (.tup (k.map kV))/\r=valV kvs k
def DPut (H:Hp) (a:Addr) (y v:V) (H':Hp):Prop:=
 (∃ kvs k,H a=some (.dK kvs)/\y=kV k/\kvs.length < sizeLine/\H'=upd H a (.dK (putK kvs k v))) \/
 ∃ kvs k b,H a=some (.dT kvs)/\y=.ref b/\H b=some (.tup (k.map kV))/\kvs.length < sizeLine/\H'=upd H a (.dT (putK kvs k v))
theorem DGet.k {H:Hp} {a:Addr} {kvs:List (Key × V)} {k:Key} (e:H a=some (.dK kvs)):DGet H a (kV k) (valV kvs k):=.inl ⟨kvs,k,.inl e,rfl,rfl⟩
theorem DGet.t {H:Hp} {a b:Addr} {kvs:List (List Key × V)} {k:List Key} (e:H a=some (.dT kvs)) (eb:H b=some (.tup (k.map kV))):DGet H a (.ref b) (valV kvs k):=.inr ⟨kvs,k,b,.inl e,rfl,eb,rfl⟩
theorem DPut.t {H:Hp} {a b:Addr} {kvs:List (List Key × V)} {k:List Key} {v:V} (e:H a=some (.dT kvs)) (eb:H b=some (.tup (k.map kV))) (hl:kvs.length < sizeLine) :
  DPut H a (.ref b) v (upd H a (.dT (putK kvs k v))):=.inr ⟨kvs,k,b,e,rfl,eb,hl,rfl⟩
section
variable {X:Cx} {pins:List (Addr × Obj)} {σ:St} {H:Hp} {s:Shared} {a:Addr} {y v:V} {u r:Value} {o:Option V} {A:Around} {E:Value->Shared->Prop}
theorem Inv.big (I:Inv X pins σ H s):sysModules < s.heap.objs.size:=by
 have h:mainGlobals < s.heap.objs.size:=(I.mod.glob.keeps I.bk).lt
 exact Nat.lt_trans (by decide) h
theorem d_getItem {Q:Value->Shared->Prop} (hu:A.units + 1 < cLine) (I:Inv X pins σ H s) (g:DGet H a y (some v)) (ry:RelV y u) (h:∀ w' s',Inv X pins σ H s'->RelV v w'->Q w' s') :
  wpAny (model X.prog X.w) A (getItem (.ref a) u) Q E s:=by
 rcases g with ⟨kvs,k,e,ey,l⟩ | ⟨kvs,k,b,e,ey,eb,l⟩
 ·subst ey
  obtain ⟨z,hd,vs,rel,dd⟩:=dk_rd I.hok e
  obtain ⟨w',hw,rw'⟩:=RelO.some_of (v:=v) (o:=valueAt vs k) (by rw [l]; exact rel.val k)
  exact wpAny_getItem_of (kV_is ry) dd.mapOf hw (h w' _ (I.tok _) rw')
 ·subst ey
  cases (show u=Value.ref b from ry)
  obtain ⟨z,hd,xs,rel,dd⟩:=dt_rd I.hok e
  obtain ⟨w',hw,rw'⟩:=RelO.some_of (v:=v) (o:=(atKey xs k).map (·.2)) (by rw [l]; exact rel.val k)
  obtain ⟨p,hp,hp2⟩:=Option.map_eq_some_iff.mp hw
  refine wpAny_getItem_heap (tupleKind_room_in1 hu) (key_of I.hok eb) dd hp ?_
  rw [hp2]
  exact h w' _ (I.tok _) rw'
theorem d_in {Q:Value->Shared->Prop} (hu:A.units + 1 < cLine) (I:Inv X pins σ H s) (g:DGet H a y o) (ry:RelV y u) (h:∀ s',Inv X pins σ H s'->Q (.bool o.isSome) s') :
  wpAny (model X.prog X.w) A (compareOp .In u (.ref a)) Q E s:=by
 rcases g with ⟨kvs,k,e,ey,l⟩ | ⟨kvs,k,b,e,ey,eb,l⟩
 ·subst ey
  obtain ⟨z,hd,vs,rel,dd⟩:=dk_rd I.hok e
  refine wpAny_in_of (kV_is ry) hd dd.mapOf ?_
  rw [<-(rel.val k).isSome_eq,<-l]
  exact h _ (I.tok _)
 ·subst ey
  cases (show u=Value.ref b from ry)
  obtain ⟨z,hd,xs,rel,dd⟩:=dt_rd I.hok e
  refine wpAny_in_heap (tupleKind_room_in1 hu) (key_of I.hok eb) hd dd ?_
  have q:=(rel.val k).isSome_eq
  rw [Option.isSome_map] at q
  rw [<-q,<-l]
  exact h _ (I.tok _)
theorem d_write {h':Heap} {t':Nat} {ob:HO} (I:Inv X pins σ H s) (mu:Mut (H a)) (hs:Heap.SameBut a s.heap h') (he:∃ q,h'.get? a=some q) (new:ObjOk X.prog X.w (upd H a ob) h' a ob) :
  Inv X pins σ (upd H a ob) { s with heap:=h',toks:=t' }:=
 I.write (x:=a) (e:=a) mu (.inl rfl) (fun b q hb z=>(hs.2 b hb).trans z) he new
theorem dk_new {P:Program} {w:World} {H':Hp} {h':Heap} {kvs:List (Key × V)} {vs:List (Key × Value)} (z:kvs.length<=sizeLine) (hd:(a == sysModules)=false) (rel:KV kvs vs) (dd:h'.DictOf (mixKind P w) a vs) :
  ObjOk P w H' h' a (.dK kvs):=⟨z,hd,vs,rel,dd⟩
theorem d_setItem {H':Hp} {Q:Unit->Shared->Prop} (hu:A.units + 1 < cLine) (I:Inv X pins σ H s) (g:DPut H a y v H') (ry:RelV y u) (rv:RelV v r) (h:∀ s',Inv X pins σ H' s'->Q () s') :
  wpAny (model X.prog X.w) A (setItem (.ref a) u r) Q E s:=by
 rcases g with ⟨kvs,k,e,ey,l,eH⟩ | ⟨kvs,k,b,e,ey,eb,l,eH⟩
 ·subst ey eH
  obtain ⟨z,hd,vs,rel,dd⟩:=dk_of I.hok e
  have hz:vs.length<=sizeLine:=by rw [<-rel.length]; exact z
  have hl:(putK kvs k v).length<=sizeLine:=by have:=length_putK kvs k v; (first|lia|omega)
  refine wpAny_setItem_pairs (hsz:=hz) (kV_is ry) dd fun h' dd' hs=>h _ ?_
  have he:∃ q,h'.get? a=some q:=let ⟨q,_,_,hq,_⟩:=dd'; ⟨q,hq⟩
  exact d_write I (by rw [e]; exact True.intro) hs he (dk_new hl hd (rel.put k rv) dd')
 ·subst ey eH
  cases (show u=Value.ref b from ry)
  obtain ⟨z,hd,xs,rel,dd⟩:=dt_of I.hok e
  have hz:xs.length<=sizeLine:=by rw [<-Paired.length rel]; exact z
  have hl:(putK kvs k v).length<=sizeLine:=by have:=length_putK kvs k v; (first|lia|omega)
  refine wpAny_setItem_heap (hsz:=hz) (tupleKind_room_in1 hu) (key_of I.hok eb) dd fun h' dd' hs=>h _ ?_
  obtain ⟨q,es,ep,hq,h2,h3,h4,_,h5⟩:=dd'
  refine d_write I (by rw [e]; exact True.intro) hs ⟨q,hq⟩ ⟨hl,hd,_,(rel.put k eb rv).keeps fun c ys ec=>?_,q,es,ep,hq,h2,h3,h4,h5⟩
  rw [upd_ne (ne_of ec e (fun z=>nomatch z))]
  exact ec
end
section
variable {X:Cx} {pins:List (Addr × Obj)} {σ:St} {H:Hp} {s:Shared} {a:Addr} {kvs:List (Key × V)} {k:Key} {u:Value} {A:Around} {E:Value->Shared->Prop}
end
def NoSl (i:Expr):Prop:=∀ ov iv,subscripted i false ov iv=operate [ov,iv] (getItem ov iv)
theorem subD_of {prog:Program} {w:World} {A:Around} {E:Value->Shared->Prop} {s:Shared} {env:Env} {value slice:Expr} {pos:Pos} {T id:String} {Q:Value->Shared->Prop}
  (hl:typeLookup (.type T) "__getitem__"=pure (some (.builtin id))) (hs:NoSl slice)
  (h:wpAny (model prog w) A (eval value env) (fun o s₁=>wpAny (model prog w) A (eval slice env) (fun i s₂=>s₂.TypeIs o T/\wpAny (model prog w) A (getItem o i) Q E s₂) E s₁) E s) :
  wpAny (model prog w) A (eval (.Subscript value slice pos) env) Q E s:=by
 refine Subscript_ (wpAny_mono h (fun o s₁ h₁=>wpAny_mono h₁ (fun i s₂ h₂=>?_) fun _ _ x=>x) fun _ _ x=>x)
 obtain ⟨hT,h₂⟩:=h₂
 unfold subscriptTail
 refine wpAny_bind ?_
 rw [getitemInPython_of_ne hT.not_modules]
 refine wpAny_bind (wpAny_specialOf hT hl ?_)
 have fin:wpAny (model prog w) A (subscripted slice false o i) (fun r s₃=>wpAny (model prog w) A (letTemporaryGo value o r >>= fun _=>pure r) Q E s₃) E s₂:=by
  rw [hs o i]
  exact wpAny_operating (wpAny_mono h₂ (fun r s₃ h₃=>wpAny_bind (wpAny_letTemporaryGo (wpAny_pure h₃))) fun _ _ x=>x)
 first
  | exact wpAny_pure (wpAny_bind fin)
  | exact wpAny_bind (wpAny_pure (wpAny_bind fin))
  | exact wpAny_bind fin
theorem dict_typeIs {X:Cx} {pins:List (Addr × Obj)} {σ:St} {H:Hp} {s:Shared} {a:Addr} {y:V} {o:Option V} (I:Inv X pins σ H s) (g:DGet H a y o):s.TypeIs (.ref a) "dict":=by
 rcases g with ⟨kvs,k,e,_,_⟩ | ⟨kvs,k,b,e,_,_,_⟩
 ·obtain ⟨_,_,vs,_,dd⟩:=dk_rd I.hok e
  exact dd.typeIs
 ·obtain ⟨_,_,xs,_,dd⟩:=dt_rd I.hok e
  exact dd.typeIs
def tDGet (td ty:TE):TE:=fun σ H Q=>td σ H fun x H1=>ty σ H1 fun y H2=>∃ a v,x=.ref a/\DGet H2 a y (some v)/\Q v H2
def tDIn (ty td:TE):TE:=fun σ H Q=>ty σ H fun y H1=>td σ H1 fun x H2=>∃ a o,x=.ref a/\DGet H2 a y o/\Q (.bl o.isSome) H2
def sDPut (td ty tv:TE):TS:=fun D σ H=>tv σ H fun v H1=>td σ H1 fun x H2=>ty σ H2 fun y H3=>∃ a H4,x=.ref a/\DPut H3 a y v H4/\D.nx σ H4
section
variable {X:Cx} {o i e value:Expr} {pos pos' tpos:Pos} {td ty tv:TE}
theorem pe_dget (hu:X.A.units + 1 < cLine) (ho:PE X o td) (hi:PE X i ty) (hs:NoSl i):PE X (.Subscript o i pos) (tDGet td ty):=by
 intro pins s σ H Q I h
 refine subD_of PySem.F.slot_dict_getitem.lookup hs (thn (ho pins s σ H _ I h) fun u s1 ⟨x,H1,I1,rx,q1⟩=>thn (hi pins s1 σ H1 _ I1 q1) fun iv s2 ⟨y,H2,I2,ry,a,v,ex,g,q2⟩=>?_)
 subst ex
 obtain rfl:u=Value.ref a:=rx
 exact ⟨dict_typeIs I2 g,d_getItem hu I2 g ry fun w' s3 I3 rw'=>⟨v,H2,I3,rw',q2⟩⟩
theorem pc_din (hu:X.A.units + 1 < cLine) (hi:PE X i ty) (ho:PE X o td):PC X .In i o (tDIn ty td):=by
 intro pins s σ H Q I h
 refine thn (hi pins s σ H _ I h) fun iv s1 ⟨y,H1,I1,ry,q1⟩=>thn (ho pins s1 σ H1 _ I1 q1) fun u s2 ⟨x,H2,I2,rx,a,ov,ex,g,q2⟩=>?_
 subst ex
 obtain rfl:u=Value.ref a:=rx
 exact d_in hu I2 g ry fun s3 I3=>⟨.bl ov.isSome,H2,I3,rfl,q2⟩
theorem ps_dput (hu:X.A.units + 1 < cLine) (ho:PE X o td) (hi:PE X i ty) (hv:PE X value tv) (hs:swapsWith value (some (.Subscript o i pos')) pos.line X.env=pure false) :
  PS X (.Assign [.Subscript o i pos'] value pos) (sDPut td ty tv):=by
 intro pins s σ H D I h
 refine wpAny_Assign_Subscript (thn (hv pins s σ H _ I h) fun r s1 ⟨v,H1,I1,rv,q1⟩=>thn (ho pins s1 σ H1 _ I1 q1) fun u s2 ⟨x,H2,I2,rx,q2⟩=>thn (hi pins s2 σ H2 _ I2 q2) fun iv s3 ⟨y,H3,I3,ry,a,H4,ex,g,q3⟩=>?_) hs
 subst ex
 obtain rfl:u=Value.ref a:=rx
 exact d_setItem hu I3 g ry rv fun s4 I4=>⟨σ,H4,I4,q3⟩
end
theorem dk_empty {P:Program} {w:World} {H:Hp} (h:Heap) (hb:sysModules < h.objs.size):ObjOk P w H (h.push { cls:=.type "dict",data:=.dict #[] }) h.objs.size (.dK []):=
 ⟨Nat.zero_le _,beq_eq_false_iff_ne.mpr (Ne.symm (Nat.ne_of_lt hb)),[],.nil,Heap.DictOf.new h⟩
theorem dt_empty {P:Program} {w:World} {H:Hp} (h:Heap) (hb:sysModules < h.objs.size):ObjOk P w H (h.push { cls:=.type "dict",data:=.dict #[] }) h.objs.size (.dT []):=
 ⟨Nat.zero_le _,beq_eq_false_iff_ne.mpr (Ne.symm (Nat.ne_of_lt hb)),[],.nil,_,#[],0,Heap.get?_push_size _ rfl,⟨rfl,rfl,rfl⟩,rfl,rfl,List.nodup_nil⟩
def tDNewK:TE:=fun _ H Q=>∀ p,H p=none->Q (.ref p) (upd H p (.dK []))
def tDNewT:TE:=fun _ H Q=>∀ p,H p=none->Q (.ref p) (upd H p (.dT []))
section
variable {X:Cx} {pos:Pos}
theorem pe_dnewK:PE X (.Dict [] [] pos) tDNewK:=fun pins s σ H Q I h=>
 wpAny_Dict_empty ⟨.ref s.heap.objs.size,_,I.laid (a:=s.heap.objs.size) (o:=.dK []) (t':=s.toks) (fun _ _ q=>Heap.get?_push_of_some _ q) (Nat.le_refl _) (dk_empty s.heap I.big),rfl,h _ (I.hok.fresh (Nat.le_refl _))⟩
theorem pe_dnewT:PE X (.Dict [] [] pos) tDNewT:=fun pins s σ H Q I h=>
 wpAny_Dict_empty ⟨.ref s.heap.objs.size,_,I.laid (a:=s.heap.objs.size) (o:=.dT []) (t':=s.toks) (fun _ _ q=>Heap.get?_push_of_some _ q) (Nat.le_refl _) (dt_empty s.heap I.big),rfl,h _ (I.hok.fresh (Nat.le_refl _))⟩
end
def mergeK (kvs more:List (Key × V)):List (Key × V):=more.foldl (fun acc kv=>putK acc kv.1 kv.2) kvs
section
variable {X:Cx} {pins:List (Addr × Obj)} {σ:St} {H:Hp} {s:Shared} {a:Addr} {y d:V} {u r:Value} {o:Option V} {A:Around} {E:Value->Shared->Prop}
end
section
variable {X:Cx} {o e f:Expr} {apos cpos:Pos} {td ty tx:TE}
end
section
variable {X:Cx} {pins:List (Addr × Obj)} {σ:St} {H:Hp} {s:Shared} {a:Addr} {kvs:List (Key × V)} {A:Around} {E:Value->Shared->Prop}
end
section
variable {X:Cx} {pins:List (Addr × Obj)} {σ:St} {H:Hp} {s:Shared} {a:Addr} {y:V} {u:Value} {A:Around} {E:Value->Shared->Prop}
end
end L2
namespace Att
open PySem PySem.W PySem.Calls PyProof.Rows
theorem ints_of_wellAll {P:Params} {h:Heap}:∀ (ns:List Int) (vs:List Value),WellAll P h vs (ns.map WData.int)->IntsAre vs ns:=by
 intro ns
 induction ns with
 | nil=>
  intro vs w
  rw [List.map_nil] at w
  cases w
  exact .nil
 | cons n ns ih=>
  intro vs w
  rw [List.map_cons] at w
  cases w with
  | cons a b=>
   cases a
   exact .cons _ _ (ih _ b)
theorem script_of {l:OpenLaw} {n:Nat} (hn:l.most=some n) {P:Params} {h:Heap} {args:List WData} {vals:List Value}
  (hpre:l.row.toRowW.claim.pre args=true) (hwl:WellAll P h vals args) :
  ∃ a vs ns,vals=[Value.ref a]/\args=[WData.list (ns.map WData.int)]/\h.get? a=some { cls:=.type "list",data:=.seq vs.toArray }/\IntsAre vs ns/\ns.length<=n:=by
 have hsh:WShape.hasAll [] args [.list .int]=true:=(pre_splitW hpre).1
 have hc:l.pre.holds [] { args:=args } = true:=(pre_splitW hpre).2
 obtain ⟨d,r,rfl,h1,h2⟩:=hasAllW_cons hsh
 obtain rfl:=hasAllW_nil h2
 obtain ⟨xs,rfl,h3⟩:=hasW_list h1
 obtain ⟨ns,rfl⟩:=items_int h3
 have hlen:ns.length<=n:=by
  unfold OpenLaw.pre at hc
  have h4:(WTm.not (.lt (.lit (.int (n:Int))) (.len (.arg 0)))).holds [] { args:=[.list (ns.map .int)] } = true:=by
   have h4:=(holds_andW hc).1
   rw [hn] at h4
   exact h4
  have h5:=condW_of h4 (w_not (w_lt w_lit (w_len_list (w_arg rfl))))
  rw [List.length_map] at h5
  refine Nat.le_of_not_lt fun q=>?_
  have q':(n:Int) < ((ns.length:Nat):Int):=by (first|lia|omega)
  first
   | (rw [decide_eq_true q'] at h5; exact absurd h5 (by decide))
   | (simp at h5; (first|lia|omega))
 cases hwl with
 | cons w1 w2=>
  cases w2
  cases w1 with
  | list ho hall=>exact ⟨_,_,ns,rfl,rfl,ho,ints_of_wellAll ns _ hall,hlen⟩
theorem post_true (l:OpenLaw) (args:List WData):l.row.toRowW.claim.post args (.bool true) args=true:=
 postW_of (r:=l.row.toRowW) (X:=(true == true))
  (show WShape.has [] (.bool true) .bool=true by first | rfl | decide | simp [WShape.has,WShape.arms,WShape.armsAll])
  (show (WTm.eq .res (.lit (.bool true))).value [] { args:=args,res:=some (.bool true),after:=args } = some (.bool (true == true)) from w_eq_bool (w_res rfl) w_lit) rfl
theorem attach_call {l:OpenLaw} {n:Nat} {q:Program} {loose:List Str} {XP:(Str->Option Value)->Heap->Prop} {YP:World->Heap->Prop} {d:DefRec}
  (hn:l.most=some n) (hdf:d.params.defaults=[])
  (call:∀ (w:World) (s₀ s₁:Shared) (mg mb:Str->Option Value) (fa:Addr) (o:Obj) (pm cd doc:Value) (a:Addr) (vs:List Value) (ns:List Int),
   Ground q loose [] XP w s₀ mg mb s₁.heap->YP w s₁.heap ->
   s₁.heap.get? fa=some o->o.data=.func (docDef d.name d.params d.body d.scope pm cd doc)->s₁.heap.CodeRec cd d.name->mg d.name=some (.ref fa) ->
   s₁.heap.get? a=some { cls:=.type "list",data:=.seq vs.toArray }->IntsAre vs ns->ns.length<=n->s₁.gens=#[] ->
   codeAny (model l.prog w) callerA (.call (.ref fa) ⟨[.ref a],[]⟩) (fun r s'=>r=.ok (.ret (.bool true))/\OldK s₁.heap s'.heap/\s'.os=s₁.os/\AllBare s'.gens) s₁) :
  WalkO q loose XP YP l.row.toRowW d [] (fun f vs=>PySem.call f vs):=by
 intro w s₀ s₁ mg mb G Y fa o pm cd doc dV kV ho hd hcd hD hmg hg args vals as hpre hlay hrd hwl hlo
 obtain rfl:dV=.none:=Dflts.none hD hdf
 obtain rfl:kV=.none:=Dflts.noKw hD
 obtain ⟨a,vs,ns,rfl,rfl,hobj,hints,hlen⟩:=script_of hn hpre hwl
 refine enter_call (codeAny_mono (call w s₀ s₁ mg mb fa o pm cd doc a vs ns G Y ho (fd_plain hd) hcd hmg hobj hints hlen hg) fun r s' hq=>?_)
 obtain ⟨rfl,h2,h3,h4⟩:=hq
 exact ⟨.inl ⟨.bool true,.bool true,[],rfl,fun _=>rfl,.bool true,post_true l _,fun _=>⟨List.Pairwise.nil,fun _ hm=>(nomatch hm)⟩⟩,h2,h3,h4⟩
section
variable {prog:Program} {w:World} {A:Around} {E:Value->Shared->Prop} {s:Shared} {K:Frag}
end
end Att
namespace L2
open PySem PySem.Spec PyProof.Rows
theorem vals_ints:∀ {vs:List Value} {ns:List Int},IntsAre vs ns->Vals (ns.map V.int) vs
 | _,_,.nil=>.nil
 | _,_,.cons n t h=>.cons ⟨t,rfl⟩ (vals_ints h)
def Only (H:Hp):Prop:=∀ b,H b=none\/∃ o xs,H b=some (.frz o (.lst xs))
theorem law_call {P:Program} {w:World} {K:PySem.W.Frag} {mg mb:Str->Option Value} {CX:CXT} {k:Nat} {fa a:Addr} {fd:FuncData} {x:Str} {sp:Sp} {s₁:Shared} {vs:List Value} {ns:List Int}
  (KX:K.In s₁.heap) (hns:s₁.heap.Ns mainGlobals mg) (hb:s₁.heap.Ns builtinsNs mb) (hbb:∀ x:Str,x ≠ "__name__"->mb x=bootBuiltins x) (hlim:s₁.heap.NoLimit) (hg:s₁.gens=#[])
  (ha:s₁.heap.get? a=some { cls:=.type "list",data:=.seq vs.toArray }) (hi:IntsAre vs ns) (hl:ns.length<=sizeLine) (hr:Room k callerA)
  (F:∀ base:Heap,K.In base->base.Ns mainGlobals mg->FnOk P w K mg base CX k fa fd [x] sp) (hbind:∀ (s:Shared) (u:Value),BindsTo s fd ⟨[u],[]⟩ [(x,u)])
  (hsp:∀ H:Hp,Only H->SqL K H a (ns.map V.int)->sp [.ref a] H (fun v _=>v=.bl true) fun _ _ _=>False)
  (hCX:∀ H e s',CX [] H s₁ (fun _ _ _=>False) e s'->False) :
  codeAny (model P w) callerA (.call (.ref fa) ⟨[.ref a],[]⟩) (fun r s'=>r=.ok (.ret (.bool true))/\OldK s₁.heap s'.heap/\s'.os=s₁.os/\AllBare s'.gens) s₁:=by
 have rv:=vals_ints hi
 have lenV:=hi.length
 have core:∀ H:Hp,Only H->SqL K H a (ns.map V.int)->HOk P w H s₁.heap->(∀ b,H b ≠ none->b=a)->(H a ≠ none->K.lookup a=none) ->
   codeAny (model P w) callerA (.call (.ref fa) ⟨[.ref a],[]⟩) (fun r s'=>r=.ok (.ret (.bool true))/\OldK s₁.heap s'.heap/\s'.os=s₁.os/\AllBare s'.gens) s₁:=by
  intro H hO hS hok hA hK
  have base_of:∀ {b:Addr} {o:Obj},s₁.heap.get? b=some o->H b=none->(hidT s₁.heap H).get? b=some o:=fun e n=>hidT_get e n
  have noA:∀ {b:Addr} {o:Obj} {es:Array DictEntry} {ep:Nat},s₁.heap.get? b=some o->o.data=.dict es ep->H b=none:=fun {b o es ep} e d=>by
   cases q:H b with
   | none=>rfl
   | some u=>
    have e':b=a:=hA b (by rw [q]; simp)
    subst e'
    rw [ha] at e; cases e
    have d':Data.seq vs.toArray _=Data.dict es ep:=d
    cases d'
  have nsK:∀ {b:Addr} {m:Str->Option Value},s₁.heap.Ns b m->(hidT s₁.heap H).Ns b m:=fun {b m} ⟨o,es,ep,e,d,r⟩=>⟨o,es,ep,base_of e (noA e d),d,r⟩
  have hKb:K.In (hidT s₁.heap H):=fun b o e=>base_of (KX b o e) (by
   cases q:H b with
   | none=>rfl
   | some u=>
    have e':b=a:=hA b (by rw [q]; simp)
    subst e'
    rw [hK (by rw [q]; simp)] at e; cases e)
  have hM:Mod K mg (hidT s₁.heap H):=⟨hKb,nsK hns,⟨mb,nsK hb,hbb⟩,let ⟨mc,h1,h2⟩:=hlim; ⟨mc,nsK h1,h2⟩⟩
  have e0:Env0 P w K mg (hidT s₁.heap H) callerA [] s₁ H:=⟨rfl,hM,fun b o e=>of_hidT e,Nat.le_of_eq (hidT_size _ _),trivial,fun b hb=>absurd (show b ∈ ([]:List Addr) from hb) (by simp),hok,.of_eq hg⟩
  refine codeAny_mono ((F _ hKb (nsK hns)).run callerA [] s₁ H ⟨[.ref a],[]⟩ [.ref a] [.ref a] _ _ hr e0 (hbind s₁ (.ref a)) (.cons rfl .nil) (hsp H hO hS)) fun r s' h=>?_
  cases r with
  | error e=>exact (hCX H e s' h).elim
  | ok fl=>
   cases fl with
   | next=>exact False.elim h
   | brk=>exact False.elim h
   | cont=>exact False.elim h
   | ret u=>
    obtain ⟨v,H',os,bare,un,hok',r',q⟩:=h
    have q':v=.bl true:=q
    subst q'
    obtain rfl:u=Value.bool true:=r'
    refine ⟨rfl,OldK.of_keep fun b o e=>?_,os,bare⟩
    cases q:H b with
    | none=>exact un.keep b o e q (by intro z; exact absurd (show b ∈ ([]:List Addr) from z) (by simp)) (by simp)
    | some u=>
     rcases hO b with z | ⟨ob,xs,z⟩
     ·rw [q] at z; cases z
     ·have z2:=un.frzs b ob _ z
      obtain ⟨e1,_⟩:=hok b _ z
      obtain ⟨e2,_⟩:=hok' b _ z2
      rw [e] at e1; cases e1
      exact e2
 cases hk:K.lookup a with
 | some o=>
  have e:=KX a o hk
  rw [ha] at e
  cases e
  refine core (fun _=>none) (fun _=>.inl rfl) (.inr ⟨_,vs.toArray,_,hk,rfl,rfl,rfl,by rw [List.size_toArray,lenV]; exact hl,by simpa using rv⟩) (fun b u z=>by have z':(none:Option HO)=some u:=z; cases z') (fun b z=>absurd rfl z) fun z=>absurd rfl z
 | none=>
  refine core (fun b=>if b=a then some (.frz { cls:=.type "list",data:=.seq vs.toArray } (.lst (ns.map V.int))) else none) (fun b=>?_) (.inl (.inr ⟨{ cls:=.type "list",data:=.seq vs.toArray },if_pos rfl⟩)) (fun b u z=>?_) (fun b z=>?_) fun _=>hk
  ·by_cases hb:b=a
   ·exact .inr ⟨_,_,if_pos hb⟩
   ·exact .inl (if_neg hb)
  ·by_cases hb:b=a
   ·have z':=(if_pos hb).symm.trans z
    cases z'
    subst hb
    exact ⟨ha,by rw [List.length_map]; exact hl,vs,_,rv,ha⟩
   ·have z':=(if_neg hb).symm.trans z
    cases z'
  ·by_cases hb:b=a
   ·exact hb
   ·exact absurd (if_neg hb) z
end L2
namespace L2
open PySem PySem.Spec PyProof.Rows
theorem walk_of {l:PySem.W.OpenLaw} {n k:Nat} {q:Program} {loose:List Str} {XP:(Str->Option Value)->Heap->Prop} {YP:World->Heap->Prop} {d:DefRec} {K:Params->PySem.W.Frag} {CX:World->CXT} {sp:World->Sp} {x:Str}
  (hn:l.most=some n) (hn2:n<=sizeLine) (hdf:d.params.defaults=[]) (hr:Room k callerA)
  (hY:∀ (w:World) (h:Heap),YP w h->(K w.params).In h)
  (F:∀ (w:World) (mg:Str->Option Value) (fa:Addr) (h:Heap),(K w.params).In h->h.Ns mainGlobals mg->mg d.name=some (.ref fa) ->
   ∃ fd:FuncData,(∀ (s:Shared) (u:Value),BindsTo s fd ⟨[u],[]⟩ [(x,u)]) /\
    ∀ base:Heap,(K w.params).In base->base.Ns mainGlobals mg->FnOk l.prog w (K w.params) mg base (CX w) k fa fd [x] (sp w))
  (hsp:∀ (w:World) (H:Hp) (a:Addr) (ns:List Int),ns.length<=n->Only H->SqL (K w.params) H a (ns.map V.int)->sp w [.ref a] H (fun v _=>v=.bl true) fun _ _ _=>False)
  (hCX:∀ (w:World) (H:Hp) (s:Shared) (e:Value) (s':Shared),CX w [] H s (fun _ _ _=>False) e s'->False) :
  PySem.W.WalkO q loose XP YP l.row.toRowW d [] (fun f vs=>PySem.call f vs):=by
 refine Att.attach_call hn hdf fun w s₀ s₁ mg mb fa o pm cd doc a vs ns G Y ho hd hcd hmg hobj hints hlen hg=>?_
 have KX:=hY w _ Y
 obtain ⟨fd,hb,hF⟩:=F w mg fa _ KX G.T.g hmg
 exact law_call KX G.T.g G.T.b G.T.builtins G.T.nolimit hg hobj hints (Nat.le_trans hlen hn2) hr hF hb (fun H hO hS=>hsp w H a ns hlen hO hS) fun H e s'=>hCX w H s₁ e s'
end L2
namespace L2
open PySem PySem.Spec PyProof.Rows
def defArgs (s:Stmt):Arguments:=match s with
 | .FunctionDef _ a _ _ _ _ _ _ _ _=>a
 | _=>{ posonlyargs:=[],args:=[],vararg:=none,kwonlyargs:=[],kw_defaults:=[],kwarg:=none,defaults:=[] }
def defBody (s:Stmt):List Stmt:=match s with
 | .FunctionDef _ _ b _ _ _ _ _ _ _=>b
 | _=>[]
def defScope (s:Stmt):Scope:=match s with
 | .FunctionDef _ _ _ _ _ _ sc _ _ _=>sc
 | _=>{ kind:=.function,names:=[],isGenerator:=false,isCoroutine:=false }
abbrev CX0:CXT:=fun _ _ _ _ _ _=>False
abbrev E0:XK:=fun _ _ _=>False
theorem pass0 {X:Cx}:Passes CX0 X E0:=fun _ _ _ _ _ _ _ h=>h.elim
structure Fun (K:PySem.W.Frag) (x qual:Str) (st:Stmt) (f:Addr) (fd:FuncData):Prop where
 ex:∃ (oc:Value) (od:Option Addr) (kV doc pm:Value) (an:Option Addr) (cdv ct:Value) (osl:Array (Option Value)),
  fd=PySem.W.fnOf x qual (defArgs st) (defBody st) (defScope st) .none kV doc pm an cdv ct/\K.lookup f=some ⟨oc,od,.func fd,osl⟩/\PySem.W.codeIn K cdv qual=true
 kp:PySem.W.keepIn K (.ref f)=true
section
variable {P:Program} {w:World} {K:PySem.W.Frag} {mg:Str->Option Value} {base:Heap}
theorem Fun.ok {x qual:Str} {st:Stmt} {f:Addr} {fd:FuncData} {N ps:List Str} {k:Nat} {sp:Sp} (F:Fun K x qual st f fd) (S:FnScope N ps (defScope st)) (len:∀ vs H Q E,sp vs H Q E->vs.length=ps.length)
  (hbody:∀ (cdv:Value) (A:Around) (outer:List Env) (s:Shared) (H:Hp) (vs:List V) (Q:VK) (E:XK),Room k (A.deeper (envOfC qual (defScope st) s.heap.objs.size f cdv))->sp vs H Q E ->
   ∃ t,PSs (cxOf CX0 P w K mg base N qual (defScope st) f cdv A outer s H E).nox (defBody st) t/\t { nx:=fun _ H'=>Q .non H',rt:=Q } (start N vs) H):FnOk P w K mg base CX0 (k + 1) f fd ps sp:=by
 obtain ⟨oc,od,kV,doc,pm,an,cdv,ct,osl,rfl,lk,hcd⟩:=F.ex
 refine fn_of lk hcd S len fun A outer s H vs Q E hr hsp=>?_
 obtain ⟨t,h,q⟩:=hbody cdv A outer s H vs Q E hr hsp
 exact ⟨t,h.nox,q⟩
theorem Fun.binds {x qual:Str} {st:Stmt} {f:Addr} {fd:FuncData} {ps:List Str} (F:Fun K x qual st f fd)
  (h:∀ (kV doc pm:Value) (an:Option Addr) (cdv ct:Value) (us:List Value),us.length=ps.length->bindArgs (PySem.W.fnOf x qual (defArgs st) (defBody st) (defScope st) .none kV doc pm an cdv ct) ⟨us,[]⟩=pure (ps.zip us)):Binds K fd ps []:=by
 obtain ⟨oc,od,kV,doc,pm,an,cdv,ct,osl,rfl,lk,hcd⟩:=F.ex
 exact .all (h kV doc pm an cdv ct)
theorem fun_mk {x qual:Str} {st:Stmt} {f:Addr} {oc:Value} {od an:Option Addr} {osl:Array (Option Value)} {kV doc pm cdv ct:Value} (l:K.lookup f=some ⟨oc,od,.func (PySem.W.fnOf x qual (defArgs st) (defBody st) (defScope st) .none kV doc pm an cdv ct),osl⟩)
  (c:PySem.W.codeIn K cdv qual=true) (k:PySem.W.keepIn K (.ref f)=true):Fun K x qual st f (PySem.W.fnOf x qual (defArgs st) (defBody st) (defScope st) .none kV doc pm an cdv ct):=⟨⟨oc,od,kV,doc,pm,an,cdv,ct,osl,rfl,l,c⟩,k⟩
end
theorem hu_of {A:Around} {k:Nat} (hr:Room k A):A.units + 1 < cLine:=Nat.lt_of_le_of_lt (Nat.add_le_add_left (by decide:1<=64) _) hr.units
section
variable {X:Cx}
theorem pv (i:Nat) {x:Str} {pos:Pos} (hN:X.N[i]? = some x:=by rfl) (hv:Vis X.env.scope x:=by first | exact Or.inl rfl | exact Or.inr (Or.inl rfl) | exact Or.inr (Or.inr rfl)) (hd:(x == ("__debug__":Str))=false:=by decide)
  (hcd:(x == ("__classdict__":Str))=false:=by decide):PE X (.Name x pos) (tVar i):=pe_var hN hv hd hcd
end
theorem iteF {A B:Prop} (h:B):if false=true then A else B:=by
 rw [if_neg Bool.false_ne_true]
 exact h
theorem iteT {A B:Prop} (h:A):if true=true then A else B:=by
 rw [if_pos rfl]
 exact h
theorem ite2 {c A B:Prop} [Decidable c] (h1:c->A) (h2:¬ c->B):if c then A else B:=by
 by_cases h:c
 ·rw [if_pos h]
  exact h1 h
 ·rw [if_neg h]
  exact h2 h
def Same (H H':Hp):Prop:=∀ b o,H b=some o->H' b=some o
theorem Same.refl (H:Hp):Same H H:=fun _ _ h=>h
theorem Same.trans {H H1 H2:Hp} (a:Same H H1) (b:Same H1 H2):Same H H2:=fun c o h=>b c o (a c o h)
section
variable {κ:Type} [DecidableEq κ]
theorem valV_not {kvs:List (κ × V)} {k:κ} (h:valV kvs k=none):¬ k ∈ kvs.map (·.1):=by
 intro m
 obtain ⟨p,hp,e⟩:=List.mem_map.mp m
 have q:(kvs.any fun kv=>decide (kv.1=k))=true:=List.any_eq_true.mpr ⟨p,hp,decide_eq_true e⟩
 rw [valV_any,h] at q
 exact absurd q (by simp)
end
end L2
namespace L2
open PySem PySem.Spec PyProof.Rows
abbrev compCx (X:Cx) (scope:Scope) (cl:List (Str × Addr)) (N:List Str) (s2:Shared) (H:Hp) (C:Addr) (fp:List Addr):Cx where
 prog:=X.prog
 w:=X.w
 K:=X.K
 mg:=X.mg
 base:=X.base
 A:=X.A
 N:=N
 s₀:=s2
 H₀:=H
 env:=compEnvC scope cl C X.env
 outer:=X.stack
 stack:=X.stack
 ex:=fp
 fn:=fun _=>false
 calm:=X.calm
 pn:=[]
 xe:=fun _ _=>False
structure CompOk (X:Cx) (scope:Scope) (cl:List (Str × Addr)):Prop where
 clos:closureFor scope X.env=pure cl
 cell:∀ y ∈ scope.names,y.2 ≠ .cell
 kind:scope.kind=.function
 names:∀ y ∈ scope.names,y.2=.local->scope.names.lookup y.1=some .local
 sub:∀ x c,cl.lookup x=some c->X.env.cells.lookup x=some c
 has:∀ x,((relabel scope X.env).names.lookup x=some .cell\/(relabel scope X.env).names.lookup x=some .free)->∃ c,cl.lookup x=some c
def Carry (X:Cx) (cl:List (Str × Addr)) (scope:Scope) (N:List Str) (σ σ':St):Prop:=
 σ'.length=N.length/\∀ (i:Nat) (x:Str) (v:V),N[i]? = some x->σ'[i]? = some (some v) ->
  (∃ j:Nat,X.N[j]? = some x/\σ[j]? = some (some v))/\(X.env.kindOf x=some .cell\/X.env.kindOf x=some .free) /\
   ((relabel scope X.env).names.lookup x=some .cell\/(relabel scope X.env).names.lookup x=some .free)
theorem Carry.none (X:Cx) (cl:List (Str × Addr)) (scope:Scope) (N:List Str) (σ:St):Carry X cl scope N σ (N.map fun _=>Option.none):=by
 refine ⟨by simp,fun i x v h1 h2=>?_⟩
 rw [List.getElem?_map,h1] at h2
 cases h2
section
variable {X:Cx} {pins:List (Addr × Obj)} {σ σ':St} {H H':Hp} {s2 s':Shared} {scope:Scope} {cl:List (Str × Addr)} {N:List Str} {fp:List Addr} {C D:Addr} {h₁ h':Heap} {t':Nat}
theorem comp_start (I:Inv X pins σ H s2) (hf:∀ b ∈ fp,FpOk X pins H b) (hfo:∀ b ∈ fp,∃ o,s2.heap.get? b=some o) (co:CompOk X scope cl) (hσ:Carry X cl scope N σ σ')
  (k:∀ b o,s2.heap.get? b=some o->h₁.get? b=some o) (hD:s2.heap.objs.size<=D) (hC:s2.heap.objs.size<=C) (hDC:C ≠ D)
  (new:h₁.get? D=some { cls:=.type "list",data:=.seq ([]:List Value).toArray 0 }\/∃ n,h₁.get? D=some { cls:=.type "list",data:=.seq ([]:List Value).toArray n }) {m:Str->Option Value} (hn:h₁.Ns C m) :
  Inv (compCx X scope cl N s2 H C fp) [] σ' (upd H D (.lst [])) { s2 with heap:=h₁,toks:=t' }:=by
 have fD:H D=none:=I.hok.fresh hD
 have fC:H C=none:=I.hok.fresh hC
 have newO:ObjOk X.prog X.w (upd H D (.lst [])) h₁ D (.lst []):=by
  refine ⟨Nat.zero_le _,[],?_⟩
  rcases new with e | ⟨n,e⟩
  ·exact ⟨0,.nil,e⟩
  ·exact ⟨n,.nil,e⟩
 have lts:∀ b ∈ fp,b < s2.heap.objs.size:=fun b hb=>let ⟨_,e⟩:=hfo b hb; Heap.lt_size e
 have cells_lt:∀ x c,cl.lookup x=some c->c < s2.heap.objs.size:=fun x c e=>by
  obtain ⟨v,q⟩:=I.cell x c (co.sub x c e)
  exact q.lt
 have ok:Cx.Ok (compCx X scope cl N s2 H C fp):=by
  refine ⟨I.ok.mod,?_,I.ok.glob,I.ok.blt,hC,?_,?_,?_,I.ok.hd,I.ok.frames,.inl rfl,?_,I.bs,Nat.le_trans I.ok.bsz I.sz,?_,?_,I.stack,I.stkFree⟩
  ·exact co.kind
  ·exact fun x y c e1 e2=>I.ok.inj x y c (co.sub x c e1) (co.sub y c e2)
  ·exact fun x h=>co.has x h
  ·exact fun x c h _=>by cases h
  ·intro b hb
   refine ⟨fun e=>?_,fun x c e=>(hf b hb).2.2.2.2.1 x c (co.sub x c e)⟩
   have z:=lts b hb
   exact absurd (Nat.lt_of_lt_of_le z hC) (by rw [show b=C from e]; exact Nat.lt_irrefl _)
  ·intro b o e hb
   have hb':b ∈ fp:=hb
   rcases (hf b hb').2.2.2.1 with z | z
   ·exact I.ok.noex b o e z
   ·exact absurd (Nat.lt_of_lt_of_le (Heap.lt_size e) (Nat.le_trans I.ok.bsz z)) (Nat.lt_irrefl _)
  ·intro b hb hz
   have hb':b ∈ fp:=hb
   obtain ⟨_,f1,f2,_⟩:=hf b hb'
   rcases List.mem_cons.mp (I.stkSub b hz) with e | e
   ·exact f1 e
   ·exact f2 e
 refine ⟨ok,rfl,I.bare,Un.laid k hD fD,?_,?_,?_,?_,?_,I.hok.laid k hD newO,hσ.1⟩
 ·refine ⟨m,hn,fun i x v e1 e2 _=>?_⟩
  obtain ⟨⟨j,j1,j2⟩,kk,kr⟩:=hσ.2 i x v e1 e2
  obtain ⟨mo,_,hl⟩:=I.loc
  obtain ⟨u,r,l⟩:=hl j x v j1 j2 (by
   rcases kk with z | z
   ·exact .inr (.inl z)
   ·exact .inr (.inr z))
  refine ⟨u,r,.inr ⟨kr,?_⟩⟩
  obtain ⟨c,hc⟩:=co.has x kr
  rcases l with ⟨z,_⟩ | ⟨_,c',hc',hcell⟩
  ·rcases kk with q | q
   ·rw [z] at q; cases q
   ·rw [z] at q; cases q
  ·have e3:=co.sub x c hc
   rw [hc'] at e3
   have e4:c'=c:=Option.some.inj e3
   subst e4
   obtain ⟨o,ho,hd⟩:=hcell
   exact ⟨c',hc,o,k _ o ho,hd⟩
 ·intro x c e
  obtain ⟨v,o,ho,hd⟩:=I.cell x c (co.sub x c e)
  exact ⟨v,o,k _ o ho,hd⟩
 ·show upd H D (.lst []) C=none
  rw [upd_ne hDC]
  exact fC
 ·intro x c e
  rw [upd_ne (Nat.ne_of_lt (Nat.lt_of_lt_of_le (cells_lt x c e) hD))]
  exact I.freeC x c (co.sub x c e)
 ·intro p hp
  cases hp
theorem comp_end {pl:List (Addr × Obj)} (I:Inv X pins σ H s2) (hf:∀ b ∈ fp,FpOk X pins H b) (hC:s2.heap.objs.size<=C) (I2:Inv (compCx X scope cl N s2 H C fp) pl σ' H' s')
  (hs:Heap.SameBut C s'.heap h'):Inv X pins σ H' { s' with heap:=h' }:=by
 have nC:∀ b o,s2.heap.get? b=some o->b ≠ C:=fun b o e=>Nat.ne_of_lt (Nat.lt_of_lt_of_le (Heap.lt_size e) hC)
 have u:=I2.base
 refine I.call' (s':={ s' with heap:=h' }) (ch:=fp) I2.os ⟨?_,?_,u.free,?_,u.tups,u.frzs,u.tbls⟩ ?_ I2.bare fun b hb=>?_
 ·exact fun b o e n h1 h2=>(hs.2 b (nC b o e)).trans (u.keep b o e n h1 h2)
 ·intro b o e n h1 h2
  obtain ⟨sl,q⟩:=u.slot b o e n h1 h2
  exact ⟨sl,(hs.2 b (nC b o e)).trans q⟩
 ·intro b o e h2
  obtain ⟨o',q⟩:=u.there b o e h2
  exact ⟨o',(hs.2 b (nC b o e)).trans q⟩
 ·intro b ob e
  have hfree:H' C=none:=I2.free
  refine (I2.hok b ob e).stay (fun c w' hc q=>(hs.2 c ?_).trans q) (fun _ q=>q) fun _ _ q=>q
  rintro rfl
  rcases hc with rfl | hc
  ·rw [hfree] at e; cases e
  ·rw [hfree] at hc; cases hc
 ·obtain ⟨_,f1,_,f3,f4,f5⟩:=hf b hb
  exact ⟨f3,f1,f4,f5⟩
end
section
variable {prog:Program} {w:World} {A:Around} {R:Result->Shared->Prop} {s:Shared}
theorem codeAny_compLoop_any {elt target iter:Expr} {ifs:List Expr} {scope:Scope} {pos:Pos} {it acc:Value} {env:Env} (I:Nat->Shared->Prop)
  (turn:∀ n s,I n s->wpAny (model prog w) A (pyNext it) (fun r s₁=>match r with
   | none=>R (.ok .next) s₁
   | some v=>wpAny (model prog w) A (letOwnedTupleGo target it v) (fun _ s₁'=>wpAny (model prog w) A (assign target env v) (fun _ s₂=>
     wpAny (model prog w) A (forIn ifs true fun c r=>if r=true then do let ok <- isTrue c env (eval c env); pure (ForInStep.yield ok) else pure (ForInStep.yield r)) (fun ok s₃=>
      if ok=true then wpAny (model prog w) A (eval elt env) (fun x s₄=>
       wpAny (model prog w) A (call (.builtin "list.append") [acc,x]) (fun _ s₅=>∃ m,m < n/\I m s₅) (notedBy (model prog w) A env fun e s'=>R (.error e) s') s₄) (notedBy (model prog w) A env fun e s'=>R (.error e) s') s₃
      else ∃ m,m < n/\I m s₃) (notedBy (model prog w) A env fun e s'=>R (.error e) s') s₂) (notedBy (model prog w) A env fun e s'=>R (.error e) s') s₁') (notedBy (model prog w) A env fun e s'=>R (.error e) s') s₁) (notedBy (model prog w) A env fun e s'=>R (.error e) s') s)
  (n:Nat) (h:I n s) :
  codeAny (model prog w) A (.compLoop (.ListComp elt [⟨target,iter,ifs,0⟩] scope pos) 0 it acc env) R s:=by
 refine codeAny_loop rfl I (fun n s hI=>?_) n h
 show wpAny _ A ((compTurn (.ListComp elt [⟨target,iter,ifs,0⟩] scope pos) 0 it acc env).onRaise (fun x=>do noteFrame x env; theTreesLotGoes x)) _ _ s
 refine wpAny_noted ?_
 rw [compTurn_list]
 refine wpAny_bind (wpAny_standAt (wpAny_bind (wpAny_mono (turn n s hI) (fun r s₁ h₁=>?_) fun _ _ h'=>h')))
 cases r with
 | none=>exact wpAny_pure h₁
 | some v=>
  refine wpAny_bind (wpAny_mono h₁ (fun _ s₁' h₁'=>?_) fun _ _ h'=>h')
  refine wpAny_bind (wpAny_mono h₁' (fun _ s₂ h₂=>wpAny_bind (wpAny_mono h₂ (fun ok s₃ h₃=>?_) fun _ _ h'=>h')) fun _ _ h'=>h')
  cases ok with
  | false=>exact wpAny_pure ⟨rfl,h₃⟩
  | true=>
   exact wpAny_bind (wpAny_bind (wpAny_mono h₃ (fun x s₄ h₄=>wpAny_bind (wpAny_mono h₄ (fun _ s₅ h₅=>wpAny_pure (wpAny_pure ⟨rfl,h₅⟩)) fun _ _ h'=>h')) fun _ _ h'=>h'))
end
def PTs (X:Cx) (ifs:List Expr) (t:TT):Prop:=
 ∀ (pins:List (Addr × Obj)) (s:Shared) (σ:St) (H:Hp) (Q:Bool->Hp->Prop),Inv X pins σ H s->t σ H Q ->
  wpAny (model X.prog X.w) X.A (forIn ifs true fun c r=>if r=true then do let ok <- isTrue c X.env (eval c X.env); pure (ForInStep.yield ok) else pure (ForInStep.yield r)) (TP X pins σ Q) X.xe s
def tYes:TT:=fun _ H Q=>Q true H
theorem pts_nil {X:Cx}:PTs X [] tYes:=fun _ _ _ H _ I h=>wpAny_tests_nil ⟨H,I,h⟩
theorem pts_one {X:Cx} {c:Expr} {t:TT} (h:PT X c t):PTs X [c] t:=fun pins s σ H Q I q=>wpAny_tests_one (h pins s σ H Q I q)
def tComp (wi:TI) (g:TG) (tt:TT) (te:TE) (σ0:St->St):TE:=fun σ H Q=>wi σ H fun J H1=>∀ D,H1 D=none->∃ W:Nat->Nat->St->Hp->Prop,(∃ m,W 0 m (σ0 σ) (upd H1 D (.lst []))) /\
 ∀ i m σ' H',W i m σ' H'->(J.stop i H'/\Q (.ref D) H')\/(J.go i H'/\∀ x H2,J.yld i H' x H2->g x σ' H2 fun σ2 H3=>tt σ2 H3 fun b H4=>
  if b=true then te σ2 H4 (fun v H5=>∃ acc,H5 D=some (.lst acc)/\acc.length < sizeLine/\∃ m',m' < m/\W (i + 1) m' σ2 (upd H5 D (.lst (acc ++ [v])))) else ∃ m',m' < m/\W (i + 1) m' σ2 H4)
theorem pe_comp {X:Cx} {tg iter elt:Expr} {ifs:List Expr} {scope:Scope} {cl:List (Str × Addr)} {N:List Str} {pos:Pos} {wi:TI} {g:TG} {tt:TT} {te:TE} {σ0:St->St} (hc:X.calm=true) (co:CompOk X scope cl)
  (hσ:∀ σ,σ.length=X.N.length->Carry X cl scope N σ (σ0 σ)) (hi:PI X tg iter wi)
  (hb:∀ s2 H C fp,PG (compCx X scope cl N s2 H C fp) tg g/\PTs (compCx X scope cl N s2 H C fp) ifs tt/\PE (compCx X scope cl N s2 H C fp) elt te)
  (hs:∀ x,foldedSetIterable iter X.env x=pure x:=by intro _; rfl):PE X (.ListComp elt [⟨tg,iter,ifs,0⟩] scope pos) (tComp wi g tt te σ0):=by
 intro pins s σ H Q I h
 rw [eval_ListComp]
 refine wpAny_comprehension_free (use:=none) rfl hs co.clos co.kind co.names (wpAny_mono (hi pins s σ H _ I h) (fun xv s1 h1=>wpAny_mono h1 (fun itv s2 h2=>?_) fun _ _ e=>e) fun _ _ e=>e)
 obtain ⟨it,fp,tn,J,H2,rfl,I2,T,st2,f2,hW⟩:=h2
 refine wpAny_newObj_type (wpAny_newFunctionEnv co.cell (by intro y hy; cases hy) (fun h₁ hns₁ hsb₁=>?_) co.kind)
 dsimp only at hns₁ hsb₁ ⊢
 generalize hH2:s2.heap.push { cls:=.type "list",dict:=none,data:=.seq ([]:List Value).toArray } = HH at hns₁ hsb₁ ⊢
 have hCsz:HH.objs.size=s2.heap.objs.size + 1:=by rw [<-hH2,Heap.size_push]
 have old:∀ b o,s2.heap.get? b=some o->h₁.get? b=some o:=fun b o e=>
  hsb₁.extBut b o (Nat.ne_of_lt (by rw [hCsz]; exact Nat.lt_succ_of_lt (Heap.lt_size e))) (Heap.get?_push_of_some _ (hH2 ▸ Heap.get?_push_of_some _ e))
 have newD:∃ n,h₁.get? s2.heap.objs.size=some { cls:=.type "list",data:=.seq ([]:List Value).toArray n }:=
  ⟨_,hsb₁.extBut _ _ (Nat.ne_of_lt (by rw [hCsz]; exact Nat.lt_succ_self _)) (Heap.get?_push_of_some _ (hH2 ▸ Heap.get?_push_size _ rfl))⟩
 obtain ⟨W,⟨m0,w0⟩,turn⟩:=hW s2.heap.objs.size I2.fresh
 have hfo:∀ b ∈ fp,∃ o,s2.heap.get? b=some o:=fun b hb=>let ⟨o,e,_⟩:=T.obj _ _ st2 b hb; ⟨o,e⟩
 have I3:Inv (compCx X scope cl N s2 H2 HH.objs.size fp) [] (σ0 σ) (upd H2 s2.heap.objs.size (.lst [])) { s2 with heap:=h₁,toks:=s2.toks + ([]:List (Str × Value)).length }:=
  comp_start I2 f2 hfo co (hσ σ I.len) old (Nat.le_refl _) (by rw [hCsz]; exact Nat.le_succ _) (Nat.ne_of_gt (by rw [hCsz]; exact Nat.lt_succ_self _)) (.inr newD) hns₁
 have fC:s2.heap.objs.size<=HH.objs.size:=by rw [hCsz]; exact Nat.le_succ _
 obtain ⟨hg,ht,he⟩:=hb s2 H2 HH.objs.size fp
 have loop:∀ s₃:Shared,s₃ = { s2 with heap:=h₁,toks:=s2.toks + ([]:List (Str × Value)).length } ->
   codeAny (model X.prog X.w) X.A (.compLoop (.ListComp elt [⟨tg,iter,ifs,0⟩] scope pos) 0 (.ref it) (.ref s2.heap.objs.size) (compEnvC scope cl HH.objs.size X.env))
    (compPost (model X.prog X.w) X.A X.xe none (EP X pins σ Q) (.ref s2.heap.objs.size) HH.objs.size) s₃:=by
  rintro s₃ rfl
  have stat:∀ {H':Hp} ,(∀ b ∈ fp,H' b=none)->∀ b ∈ fp,FpOk (compCx X scope cl N s2 H2 HH.objs.size fp) [] H' b:=fun hn b hb=>by
   refine ⟨hn b hb,?_,?_,.inl hb,?_,fun p hp=>by cases hp⟩
   ·obtain ⟨o,e⟩:=hfo b hb
    exact Nat.ne_of_lt (show b < HH.objs.size by rw [hCsz]; exact Nat.lt_succ_of_lt (Heap.lt_size e))
   ·intro hz
    obtain ⟨_,q1,q2,_⟩:=f2 b hb
    rcases List.mem_cons.mp (I2.stkSub b hz) with e | e
    ·exact q1 e
    ·exact q2 e
   ·exact fun x c e=>(f2 b hb).2.2.2.2.1 x c (co.sub x c e)
  refine codeAny_compLoop_any (fun n s'=>∃ i σ' H',Inv (compCx X scope cl N s2 H2 HH.objs.size fp) [] σ' H' s'/\tn i s'.heap/\(∀ b ∈ fp,H' b=none)/\W i n σ' H') ?_ m0
   ⟨0,σ0 σ,_,I3,T.keep _ _ _ st2 fun b hb o e=>old b o e,fun b hb=>?_,w0⟩
  ·rintro n s4 ⟨i,σ4,H4,I4,st4,fr4,w4⟩
   rcases turn i n σ4 H4 w4 with ⟨stop,qn⟩ | ⟨go,step⟩
   ·refine wpAny_mono (T.done (compCx X scope cl N s2 H2 HH.objs.size fp) rfl rfl rfl hc i [] s4 σ4 H4 (fun _ _=>False) I4 (stat fr4) st4 stop) (fun r s5 ⟨hr,I5⟩=>?_) fun _ _ z=>z.elim
    subst hr
    obtain ⟨m5,hn5,_⟩:=id I5.loc
    exact ⟨m5,hn5,fun h' hs'=>⟨.ref _,H4,comp_end I2 f2 fC I5 hs',rfl,qn⟩⟩
   ·refine wpAny_mono (T.item (compCx X scope cl N s2 H2 HH.objs.size fp) rfl rfl rfl hc i [] s4 σ4 H4 (fun _ _=>False) I4 (stat fr4) st4 go) (fun r s5 ⟨u,hr,h5⟩=>?_) fun _ _ z=>z.elim
    subst hr
    refine wpAny_mono h5 (fun _ s6 ⟨x,H6,I6,r6,y6,st6,fr6⟩=>?_) fun _ _ z=>z.elim
    have I6':=I6.pinned (stat fr6) (T.obj _ _ st6)
    refine wpAny_mono (hg _ s6 σ4 H6 x u _ I6' r6 (step x H6 y6)) (fun _ s7 ⟨σ7,H7,I7,q7⟩=>?_) fun _ _ z=>z.elim
    refine wpAny_mono (ht _ s7 σ7 H7 _ I7 q7) (fun ok s8 ⟨H8,I8,q8⟩=>?_) fun _ _ z=>z.elim
    have again:∀ {s9:Shared} {σ9:St} {H9:Hp} ,Inv (compCx X scope cl N s2 H2 HH.objs.size fp) ([] ++ pinsAt fp s6.heap) σ9 H9 s9->(∃ m',m' < n/\W (i + 1) m' σ9 H9)->∃ m,m < n/\∃ i σ' H',Inv (compCx X scope cl N s2 H2 HH.objs.size fp) [] σ' H' s9/\tn i s9.heap/\(∀ b ∈ fp,H' b=none)/\W i m σ' H':=fun {s9 σ9 H9} I9 n9=>by
     obtain ⟨m',hm,w9⟩:=n9
     refine ⟨m',hm,i + 1,σ9,H9,I9.unpinned,T.keep _ _ _ st6 fun b hb o e=>(I9.pin (b,o) (List.mem_append_right _ (List.mem_append_right _ (mem_pinsAt hb e)))).1,fun b hb=>?_,w9⟩
     obtain ⟨o,e,d⟩:=T.obj _ _ st6 b hb
     exact (I9.pin (b,o) (List.mem_append_right _ (List.mem_append_right _ (mem_pinsAt hb e)))).2.1
    cases ok with
    | false=>
     rw [if_neg Bool.false_ne_true] at q8 ⊢
     exact again I8 q8
    | true=>
     rw [if_pos rfl] at q8 ⊢
     refine wpAny_mono (he _ s8 σ7 H8 _ I8 q8) (fun y s9 ⟨v,H9,I9,r9,acc,hacc,hsz,q9⟩=>?_) fun _ _ z=>z.elim
     refine wpAny_mono (mt_append (X:=compCx X scope cl N s2 H2 HH.objs.size fp) _ s9 σ7 H9 (.ref s2.heap.objs.size) [v] (.ref s2.heap.objs.size) [y] (fun _ H10=>∃ m',m' < n/\W (i + 1) m' σ7 H10) I9 rfl (.cons r9 .nil) ⟨_,acc,v,rfl,rfl,hacc,hsz,q9⟩) (fun _ s10 ⟨_,H10,I10,_,q10⟩=>?_) fun _ _ z=>z.elim
     exact again I10 q10
  ·have z:=(f2 b hb).1
   obtain ⟨o,e⟩:=hfo b hb
   rw [upd_ne (Nat.ne_of_lt (Heap.lt_size e))]
   exact z
 exact codeAny_compStart_list (loop _ rfl) (T.self _ 0 _ _ _ (T.keep _ _ _ st2 fun b hb o e=>old b o e) (loop _ rfl))
end L2
namespace L2
open PySem PySem.Spec PyProof.Rows
def Its (x:Str):It:=⟨fun i _=>i < x.cps.size,fun i H v H'=>H'=H/\∃ c,x.cps[i]? = some c/\v=.str ⟨#[c]⟩,fun i _=>x.cps.size<=i⟩
theorem turn_strA {P:Program} {w:World} {K:PySem.W.Frag} {tg:Expr} (it:Addr) (x:Str) (t:Tok):Turn P w K tg (Its x) [it] it (fun i h=>h.IsStrIter it "str_ascii_iterator" x t i) where
 mem:=by simp
 obj:=fun i h st b hb=>by
  have e:b=it:=by simpa using hb
  subst e
  obtain ⟨o,e,c,d⟩:=st
  exact ⟨o,e,fun v z=>by rw [d] at z; cases z⟩
 keep:=fun i h h' st k=>let ⟨o,e,r⟩:=st; ⟨o,k it (by simp) o e,r⟩
 item:=by
  intro X hP hw hK hc i pins s σ H E I hf st hg
  subst hP hw hK
  obtain ⟨f0,f1,f2,f3,f4,f5⟩:=hf it (by simp)
  have hg':i < x.cps.size:=hg
  refine wpAny_pyNext_ascii_item st (c:=x.cps[i]) (by simp [hg']) fun h' st' sb=>?_
  have I1:Inv X pins σ H { s with heap:=h',toks:=s.toks + 1 }:=I.turned (fun b o hb e=>(sb.2 b hb).trans e) f0 f1 f3 f4 f5
  obtain ⟨o,e,c,d⟩:=id st'
  exact ⟨_,rfl,go_of (s:={ s with heap:=h',toks:=s.toks + 1 }) e c d (by decide) ⟨.str ⟨#[x.cps[i]]⟩,H,I1,⟨_,rfl⟩,⟨rfl,_,by simp [hg'],rfl⟩,st',fun b hb=>(hf b hb).1⟩⟩
 done:=by
  intro X hP hw hK hc i pins s σ H E I hf st hg
  subst hP hw hK
  obtain ⟨f0,f1,f2,f3,f4,f5⟩:=hf it (by simp)
  have hg':x.cps.size<=i:=hg
  exact wpAny_pyNext_ascii_end (I.ok.hd hc) st (by simp [hg']) fun h' eb=>⟨rfl,I.turned (t':=s.toks) (fun b o hb e=>eb b o hb e) f0 f1 f3 f4 f5⟩
 self:=fun _ _ _ _ _ st h=>wpAny_pyIter_striter_ascii st h
theorem turn_strW {P:Program} {w:World} {K:PySem.W.Frag} {tg:Expr} (it:Addr) (x:Str) (t:Tok):Turn P w K tg (Its x) [it] it (fun i h=>h.IsStrIter it "str_iterator" x t i) where
 mem:=by simp
 obj:=fun i h st b hb=>by
  have e:b=it:=by simpa using hb
  subst e
  obtain ⟨o,e,c,d⟩:=st
  exact ⟨o,e,fun v z=>by rw [d] at z; cases z⟩
 keep:=fun i h h' st k=>let ⟨o,e,r⟩:=st; ⟨o,k it (by simp) o e,r⟩
 item:=by
  intro X hP hw hK hc i pins s σ H E I hf st hg
  subst hP hw hK
  obtain ⟨f0,f1,f2,f3,f4,f5⟩:=hf it (by simp)
  have hg':i < x.cps.size:=hg
  refine wpAny_pyNext_wide_item st (c:=x.cps[i]) (by simp [hg']) fun h' st' sb=>?_
  have I1:Inv X pins σ H { s with heap:=h',toks:=s.toks + 1 }:=I.turned (fun b o hb e=>(sb.2 b hb).trans e) f0 f1 f3 f4 f5
  obtain ⟨o,e,c,d⟩:=id st'
  exact ⟨_,rfl,go_of (s:={ s with heap:=h',toks:=s.toks + 1 }) e c d (by decide) ⟨.str ⟨#[x.cps[i]]⟩,H,I1,⟨_,rfl⟩,⟨rfl,_,by simp [hg'],rfl⟩,st',fun b hb=>(hf b hb).1⟩⟩
 done:=by
  intro X hP hw hK hc i pins s σ H E I hf st hg
  subst hP hw hK
  obtain ⟨f0,f1,f2,f3,f4,f5⟩:=hf it (by simp)
  have hg':x.cps.size<=i:=hg
  exact wpAny_pyNext_wide_end (I.ok.hd hc) st (by simp [hg']) fun h' eb=>⟨rfl,I.turned (t':=s.toks) (fun b o hb e=>eb b o hb e) f0 f1 f3 f4 f5⟩
 self:=fun _ _ _ _ _ st h=>wpAny_pyIter_striter_wide st h
def iStr (tl:TE):TI:=fun σ H R=>tl σ H fun x H1=>∃ z,x=.str z/\R (Its z) H1
theorem pi_str {X:Cx} {tg l:Expr} {tl:TE} (hl:PE X l tl):PI X tg l (iStr tl):=by
 intro pins s σ H R I h
 refine thn (hl pins s σ H _ I h) fun v s1 ⟨x,H1,I1,r1,q1⟩=>?_
 obtain ⟨z,rfl,q⟩:=q1
 obtain ⟨t,rfl⟩:=r1
 have fin:∀ b ∈ [s1.heap.objs.size],FpOk X pins H1 b:=fun b hb=>by
  have e:b=s1.heap.objs.size:=by simpa using hb
  subst e
  exact I1.fpOk (Nat.le_refl _) (I1.hok.fresh (Nat.le_refl _))
 cases ha:z.cps.all (· < 128)
 ·exact wpAny_pyIter_wide ha ⟨s1.heap.objs.size,[s1.heap.objs.size],_,_,H1,rfl,I1.kept (t':=s1.toks) fun b o e=>Heap.get?_push_of_some _ e,turn_strW _ z t,⟨_,Heap.get?_push_size _ rfl,rfl,rfl⟩,fin,q⟩
 ·exact wpAny_pyIter_ascii ha ⟨s1.heap.objs.size,[s1.heap.objs.size],_,_,H1,rfl,I1.kept (t':=s1.toks) fun b o e=>Heap.get?_push_of_some _ e,turn_strA _ z t,⟨_,Heap.get?_push_size _ rfl,rfl,rfl⟩,fin,q⟩
theorem call_all_bl {X:Cx} (hc:X.calm=true):CallR X (.builtin "all") (fun xs H Q=>∃ (p:Addr) (bs:List Bool),xs=[.ref p]/\SqL X.K H p (bs.map V.bl)/\Q (.bl (bs.all id)) H):=by
 intro pins s σ H xs us Q I r h
 obtain ⟨p,bs,rfl,hq,q⟩:=h
 obtain ⟨u,rfl,ru⟩:=vals1 r
 cases ru
 obtain ⟨its,rv,pl,hz⟩:=I.list hq
 have hlen:its.length=bs.length:=by rw [<-rv.length,List.length_map]
 refine call_all_walk (wpAny_pyIter_list pl.isList ?_)
 have hne:p ≠ s.heap.objs.size:=by
  obtain ⟨o,n,e,_⟩:=pl
  exact Nat.ne_of_lt (Heap.lt_size e)
 refine ⟨s.heap.objs.size,_,_,_,_,_,fun i=>bs.getD i true,rfl,Walks.list (A:=X.A.in1) (I.ok.hd hc) s.heap.objs.size p hne its.toArray,⟨⟨_,Heap.get?_push_size _ rfl,rfl,rfl⟩,?_⟩,?_,?_⟩
 ·exact pl.isList.at fun o e=>Heap.get?_push_of_some _ e
 ·intro i v s1 Q1 E1 hv hQ
  have hv':its[i]? = some v:=by simpa using hv
  have hb:∃ b,bs[i]? = some b:=by
   cases e:bs[i]? with
   | some b=>exact ⟨b,rfl⟩
   | none=>
    have:=List.getElem?_eq_none_iff.mp e
    have:=(List.getElem?_eq_some_iff.mp hv').1
    (first|lia|omega)
  obtain ⟨b,hb⟩:=hb
  obtain ⟨u,hu,ru⟩:=rv.get (i:=i) (x:=V.bl b) (by rw [List.getElem?_map,hb]; rfl)
  rw [hv'] at hu
  cases hu
  cases ru
  have e:bs.getD i true=b:=by rw [List.getD_eq_getElem?_getD,hb]; rfl
  have hQ':Q1 (bs.getD i true) s1:=hQ
  rw [e] at hQ'
  exact wpAny_truthy_bool hQ'
 ·intro h' tk hk
  have e:(List.range its.toArray.size).all (fun i=>bs.getD i true)=bs.all id:=by
   rw [List.size_toArray,hlen]
   apply Bool.eq_iff_iff.mpr
   simp only [List.all_eq_true,List.mem_range,id]
   constructor
   ·intro h b hb
    obtain ⟨i,hi,e⟩:=List.getElem_of_mem hb
    have:=h i hi
    rw [List.getD_eq_getElem?_getD,List.getElem?_eq_getElem hi] at this
    simpa [e] using this
   ·intro h i hi
    rw [List.getD_eq_getElem?_getD,List.getElem?_eq_getElem hi]
    exact h _ (List.getElem_mem hi)
  rw [e]
  refine ⟨.bl _,H,?_,rfl,q⟩
  have I1:Inv X pins σ H { s with heap:=s.heap.push { cls:=.type "list_iterator",data:=.fields #[.ref p,.int 0 0] } }:=I.kept (t':=s.toks) fun b o e=>Heap.get?_push_of_some _ e
  have F:=I.fpOk (Nat.le_refl _) (I.hok.fresh (Nat.le_refl _))
  obtain ⟨f0,f1,f2,f3,f4,f5⟩:=F
  exact I1.turned (it:=s.heap.objs.size) (fun b o hb e=>hk b o (by simpa using hb) e) f0 f1 f3 f4 f5
theorem call_isinst {X:Cx}:CallR X (.builtin "isinstance") (fun xs H Q=>∃ x c t b,xs=[x,.ty c]/\TyOf X.K H x t/\PySem.W.kitOne X.K t (.type c)=some b/\Q (.bl b) H):=by
 intro pins s σ H xs us Q I r h
 obtain ⟨x,c,t,b,rfl,ty,e,q⟩:=h
 obtain ⟨u,v,rfl,rx,rc⟩:=vals2 r
 cases rc
 exact isinst_ok I rx ty e fun tk=>⟨.bl b,H,I.tok tk,rfl,q⟩
theorem op_le_str {X:Cx}:OpR X (compareOp .LtE) (fun x y H Q=>∃ i j,x=.str i/\y=.str j/\Q (.bl (!(decide (j.cps.toList < i.cps.toList)))) H):=by
 intro pins s σ H x y v u Q I rx ry h
 obtain ⟨i,j,rfl,rfl,q⟩:=h
 obtain ⟨t,rfl⟩:=rx
 obtain ⟨t',rfl⟩:=ry
 exact PySem.P.le_str ⟨.bl _,H,I,rfl,q⟩
def tSlS (te:TE) (tl th:TO):TE:=fun σ H Q=>te σ H fun x H1=>tl σ H1 fun l H2=>th σ H2 fun u H3=>∃ z,x=.str z/\z.length<=sizeLine/\Q (.str (Txt.slice z l u)) H3
theorem pe_slice_str {X:Cx} {e:Expr} {te:TE} {lo hi:Option Expr} {tl th:TO} {pos p2:Pos} (he:PE X e te) (hl:PO X lo tl) (hu:PO X hi th):PE X (.Subscript e (.Slice lo hi none p2) pos) (tSlS te tl th):=by
 intro pins s σ H Q I h
 refine Subscript_ (thn (he pins s σ H _ I h) fun v s1 ⟨x,H1,I1,r1,q1⟩=>?_)
 refine wpAny_Slice (thn (hl pins s1 σ H1 _ I1 q1) fun vl s2 ⟨l,H2,I2,pl,q2⟩=>thn (hu pins s2 σ H2 _ I2 q2) fun vu s3 ⟨u,H3,I3,pu,q3⟩=>?_)
 rw [evalPart_none]
 refine wpAny_pure ?_
 obtain ⟨z,rfl,hz,q⟩:=q3
 obtain ⟨t,rfl⟩:=r1
 show wpAny (model X.prog X.w) X.A (subscriptTail e (.Slice lo hi none p2) (.str z t) (.ref s3.heap.objs.size)) (EP X pins σ Q) X.xe { s3 with heap:=s3.heap.push { cls:=.type "slice",data:=.fields #[vl,vu,.none] } }
 have kk:KeptH (fun h=>∀ b o,s3.heap.get? b=some o->h.get? b=some o):=fun h ob hh b o e=>Heap.get?_push_of_some _ (hh b o e)
 have fin:ItemOn (model X.prog X.w) X.A X.xe (.str z t) (.ref s3.heap.objs.size) (EP X pins σ Q) { s3 with heap:=s3.heap.push { cls:=.type "slice",data:=.fields #[vl,vu,.none] } }:=by
  cases pl with
  | none=>
   cases pu with
   | none=>exact SBH.sliceItem_nn kk (fun _ _ e=>e) (fun h' t' k kp=>⟨.str _,H3,I3.kept kp,⟨_,rfl⟩,q⟩) hz
   | int j uj=>exact SBH.sliceItem_ns kk (fun _ _ e=>e) (fun h' t' k kp=>⟨.str _,H3,I3.kept kp,⟨_,rfl⟩,q⟩) hz
  | int i ui=>
   cases pu with
   | none=>exact SBH.sliceItem_sn kk (fun _ _ e=>e) (fun h' t' k kp=>⟨.str _,H3,I3.kept kp,⟨_,rfl⟩,q⟩) hz
   | int j uj=>exact SBH.sliceItem_ss kk (fun _ _ e=>e) (fun h' t' k kp=>⟨.str _,H3,I3.kept kp,⟨_,rfl⟩,q⟩) hz
 obtain ⟨T,id,hT,ht,hg⟩:=fin
 exact tail_any (ops:=[.ref s3.heap.objs.size,.str z t]) ht hT hg (by with_unfolding_all rfl)
end L2
namespace L2
open PySem PySem.Spec PyProof.Rows
theorem lookup_mem {α:Type}:∀ {l:List (Str × α)} {x:Str} {k:α},l.lookup x=some k->(x,k) ∈ l
 | [],_,_,h=>by cases h
 | (n,v) :: r,x,k,h=>by
  rw [List.lookup_cons] at h
  by_cases e:x=n
  ·subst e
   simp at h
   subst h
   exact List.mem_cons_self
  ·have:(x == n)=false:=beq_eq_false_iff_ne.mpr e
   rw [this] at h
   exact List.mem_cons_of_mem _ (lookup_mem h)
theorem CompOk.plain {X:Cx} {scope:Scope} (hfree:∀ x ∈ scope.names,x.2 ≠ .free) (hcell:∀ y ∈ scope.names,y.2 ≠ .cell) (hkind:scope.kind=.function)
  (hnames:∀ y ∈ scope.names,y.2=.local->scope.names.lookup y.1=some .local):CompOk X scope []:=by
 refine ⟨closureFor_none hfree,hcell,hkind,hnames,fun x c h=>(by cases h),fun x h=>?_⟩
 have key:∀ k,(relabel scope X.env).names.lookup x=some k->∃ y ∈ scope.names,y.2=k:=by
  intro k e
  have m:=lookup_mem e
  obtain ⟨⟨n,k'⟩,hm,e'⟩:=List.mem_map.mp m
  have hf:=hfree _ hm
  have:(k' == NameKind.free)=false:=by
   cases k' <;> first | rfl | exact absurd rfl hf
  dsimp only at e'
  rw [this] at e'
  simp at e'
  exact ⟨_,hm,e'.2⟩
 rcases h with h | h
 ·obtain ⟨y,hy,e⟩:=key _ h
  exact absurd e (hcell y hy)
 ·obtain ⟨y,hy,e⟩:=key _ h
  exact absurd e (hfree y hy)
def lowc (c:Nat):Bool:=decide (97<=c) && decide (c<=122)
theorem lt1 (a b:Nat):decide (([a]:List Nat) < [b])=decide (a < b):=by
 apply decide_eq_decide.mpr
 rw [List.cons_lt_cons_iff]
 constructor
 ·rintro (h | ⟨_,h⟩)
  ·exact h
  ·exact absurd h (by simp)
 ·exact fun h=>.inl h
theorem leA (c:Nat):(!(decide ((⟨#[c]⟩:Str).cps.toList < (Str.ofString "a").cps.toList)))=decide (97<=c):=by
 show (!(decide (([c]:List Nat) < [97])))=_
 rw [lt1,<-decide_not]
 exact decide_eq_decide.mpr (by (first|lia|omega))
theorem leZ (c:Nat):(!(decide ((Str.ofString "z").cps.toList < (⟨#[c]⟩:Str).cps.toList)))=decide (c<=122):=by
 show (!(decide (([122]:List Nat) < [c])))=_
 rw [lt1,<-decide_not]
 exact decide_eq_decide.mpr (by (first|lia|omega))
def nameB (t:Str):Bool:=decide (1<=t.length) && decide (t.length<=6) && t.cps.toList.all lowc
def NotStr (K:PySem.W.Frag) (H:Hp) (x:V):Prop:=∃ ty,TyOf K H x ty/\PySem.W.kitOne K ty (.type "str")=some false
def spName (K:PySem.W.Frag):Sp:=fun vs H Q _=>∃ x,vs=[x]/\((∃ t,x=.str t/\t.length<=1000/\∀ H',Same H H'->Q (.bl (nameB t)) H')\/(NotStr K H x/\Q (.bl false) H))
theorem same_upd {H:Hp} {p:Addr} {o:HO} (h:H p=none):Same H (upd H p o):=fun b u e=>by
 rw [upd_ne (ne_of_none e h)]
 exact e
theorem take_succ_map {α β:Type} (f:α->β) (l:List α) (i:Nat) (c:α) (h:l[i]? = some c):(l.take (i + 1)).map f=(l.take i).map f ++ [f c]:=by
 rw [List.take_succ,h,List.map_append]
 rfl
end L2
namespace L2
open PySem PySem.Spec PyProof.Rows
mutual
inductive Dat (H:Hp):V->PyData->Prop
 | non:Dat H .non .none
 | bl (b:Bool):Dat H (.bl b) (.bool b)
 | int (i:Int):Dat H (.int i) (.int i)
 | str (x:Str):Dat H (.str x) (.str x)
 | tup {a:Addr} {vs:List V} {ds:List PyData}:H a=some (.tup vs)->Dats H vs ds->Dat H (.ref a) (.tuple ds)
 | lst {a:Addr} {vs:List V} {ds:List PyData}:H a=some (.lst vs)->Dats H vs ds->Dat H (.ref a) (.list ds)
inductive Dats (H:Hp):List V->List PyData->Prop
 | nil:Dats H [] []
 | cons {v:V} {vs:List V} {d:PyData} {ds:List PyData}:Dat H v d->Dats H vs ds->Dats H (v :: vs) (d :: ds)
end
mutual
theorem Dat.mono {H H':Hp} (s:∀ a o,H a=some o->(∃ vs,o=.tup vs\/o=.lst vs)->H' a=some o):∀ {v:V} {d:PyData},Dat H v d->Dat H' v d
 | _,_,.non=>.non
 | _,_,.bl b=>.bl b
 | _,_,.int i=>.int i
 | _,_,.str x=>.str x
 | _,_,.tup e r=>.tup (s _ _ e ⟨_,.inl rfl⟩) (Dats.mono s r)
 | _,_,.lst e r=>.lst (s _ _ e ⟨_,.inr rfl⟩) (Dats.mono s r)
theorem Dats.mono {H H':Hp} (s:∀ a o,H a=some o->(∃ vs,o=.tup vs\/o=.lst vs)->H' a=some o):∀ {vs:List V} {ds:List PyData},Dats H vs ds->Dats H' vs ds
 | _,_,.nil=>.nil
 | _,_,.cons x r=>.cons (Dat.mono s x) (Dats.mono s r)
end
theorem Dat.same {H H':Hp} {v:V} {d:PyData} (h:Dat H v d) (s:Same H H'):Dat H' v d:=h.mono fun a o e _=>s a o e
mutual
theorem Dat.reads {X:Cx} {pins:List (Addr × Obj)} {σ:St} {H:Hp} {s:Shared} (I:Inv X pins σ H s):∀ {v:V} {d:PyData} {u:Value},Dat H v d->RelV v u->∃ as,Reads s.heap u d as
 | _,_,_,.non,r=>by cases r; exact ⟨_,.none⟩
 | _,_,_,.bl b,r=>by cases r; exact ⟨_,.bool b⟩
 | _,_,_,.int i,r=>by obtain ⟨t,rfl⟩:=r; exact ⟨_,.int i t⟩
 | _,_,_,.str x,r=>by obtain ⟨t,rfl⟩:=r; exact ⟨_,.str x t⟩
 | _,_,_,.tup (a:=a) e m,r=>by
  cases r
  obtain ⟨_,its,rv,⟨o,ho,hc,n,hd⟩,_⟩:=(show ObjOk X.prog X.w H s.heap a (.tup _) from I.hok a _ e)
  obtain ⟨as,q⟩:=Dats.reads I m rv
  exact ⟨_,.tuple ho hc hd (by simpa using q)⟩
 | _,_,_,.lst (a:=a) e m,r=>by
  cases r
  obtain ⟨_,its,n,rv,ho⟩:=(show ObjOk X.prog X.w H s.heap a (.lst _) from I.hok a _ e)
  obtain ⟨as,q⟩:=Dats.reads I m rv
  exact ⟨_,.list ho rfl rfl (by simpa using q)⟩
theorem Dats.reads {X:Cx} {pins:List (Addr × Obj)} {σ:St} {H:Hp} {s:Shared} (I:Inv X pins σ H s):∀ {vs:List V} {ds:List PyData} {us:List Value},Dats H vs ds->Vals vs us->∃ as,ReadsAll s.heap us ds as
 | _,_,_,.nil,r=>by cases r; exact ⟨_,.nil⟩
 | _,_,_,.cons x m,r=>by
  cases r with
  | cons r1 r2=>
   obtain ⟨as,q1⟩:=Dat.reads I x r1
   obtain ⟨bs,q2⟩:=Dats.reads I m r2
   exact ⟨_,.cons q1 q2⟩
end
theorem op_eq_dat {X:Cx} (hu:X.A.units + 64 < cLine):OpR X (compareOp .Eq) (fun x y H Q=>∃ d e,Dat H x d/\Dat H y e/\d.canLay0=true/\e.canLay0=true/\d.depth<=60/\Q (.bl (PyData.eqv d e)) H):=by
 intro pins s σ H x y v u Q I rx ry h
 obtain ⟨d,e,h1,h2,c1,c2,hd,q⟩:=h
 obtain ⟨as,r1⟩:=h1.reads I rx
 obtain ⟨bs,r2⟩:=h2.reads I ry
 exact SeqAt.compareEq_reads r1 r2 c1 c2 (by have:=Nat.min_le_left d.depth e.depth; (first|lia|omega)) ⟨.bl _,H,I,rfl,q⟩
theorem slice_mem {x:Str} {l u:Option Int} {c:Nat} (h:c ∈ (Txt.slice x l u).cps.toList):c ∈ x.cps.toList:=by
 unfold Txt.slice at h
 split at h
 ·exact h
 ·rw [show ((⟨((Builtin.Str.strSliceIndices l u 1 x.length).filterMap (x.cps[·]?)).toArray⟩:Str).cps.toList)=(Builtin.Str.strSliceIndices l u 1 x.length).filterMap (x.cps[·]?) by simp] at h
  obtain ⟨i,_,e⟩:=List.mem_filterMap.mp h
  have:=Array.mem_of_getElem? e
  simpa using this
def Keep (p:Addr) (H H':Hp):Prop:=∀ b o,b ≠ p->H b=some o->H' b=some o
theorem Keep.refl (p:Addr) (H:Hp):Keep p H H:=fun _ _ _ e=>e
theorem Keep.trans {p:Addr} {H H1 H2:Hp} (a:Keep p H H1) (b:Keep p H1 H2):Keep p H H2:=fun c o n e=>b c o n (a c o n e)
theorem Keep.of_same {p:Addr} {H H':Hp} (s:Same H H'):Keep p H H':=fun b o _ e=>s b o e
theorem Keep.upd {p:Addr} {H:Hp} {o:HO}:Keep p H (L2.upd H p o):=fun b u n e=>by rw [upd_ne n]; exact e
end L2
namespace L2
open PySem PySem.Spec PyProof.Rows
def Scr (K:PySem.W.Frag) (H:Hp) (a:Addr) (xs:List V):Prop:=(∃ ob,H a=some (.frz ob (.lst xs)))\/∃ o its n,List.lookup a K=some o/\o.cls=Value.type "list"/\o.dict=none/\o.data=Data.seq its n/\its.size<=sizeLine/\Vals xs its.toList
theorem Scr.sq {K:PySem.W.Frag} {H:Hp} {a:Addr} {xs:List V} (h:Scr K H a xs):SqL K H a xs:=by
 rcases h with ⟨ob,h⟩ | h
 ·exact .inl (.inr ⟨ob,h⟩)
 ·exact .inr h
theorem Scr.same {K:PySem.W.Frag} {H H':Hp} {a:Addr} {xs:List V} (h:Scr K H a xs) (s:Same H H'):Scr K H' a xs:=by
 rcases h with ⟨ob,h⟩ | h
 ·exact .inl ⟨ob,s _ _ h⟩
 ·exact .inr h
theorem at_ns {ns:List Int} {i:Int} (h0:0<=i) (h1:i < ns.length):∃ c,atI (ns.map V.int) i=some (V.int c):=by
 obtain ⟨n,rfl⟩:∃ n:Nat,i=(n:Int):=⟨i.toNat,by (first|lia|omega)⟩
 have hn:n < ns.length:=by (first|lia|omega)
 exact ⟨ns[n],atI_nat (by rw [List.getElem?_map,List.getElem?_eq_getElem hn]; rfl)⟩
theorem at_mem {α:Type} {l:List α} {i:Int} {c:α} (h:atI l i=some c):c ∈ l:=by
 obtain ⟨j,_,h2,_⟩:=atI_get h
 exact List.mem_of_getElem? h2
end L2
namespace L2
open PySem PySem.Spec PyProof.Rows
abbrev letters:Str:="abcdefghijklmnopqrstuvwxyz"
theorem letters_low:∀ c ∈ letters.cps.toList,lowc c=true:=by decide +kernel
def Low (z:Str):Prop:=∀ c ∈ z.cps.toList,lowc c=true
theorem low_app {x:Str} {c:Nat} (h:Low x) (hc:lowc c=true):Low (x ++ ⟨#[c]⟩):=by
 intro k hk
 have e:(x ++ (⟨#[c]⟩:Str)).cps.toList=x.cps.toList ++ [c]:=by
  rw [Str.cps_append]
  simp
 rw [e] at hk
 rcases List.mem_append.mp hk with h' | h'
 ·exact h k h'
 ·rw [List.mem_singleton.mp h']; exact hc
theorem nameB_of {z:Str} (h1:1<=z.length) (h2:z.length<=6) (h:Low z):nameB z=true:=by
 unfold nameB
 rw [decide_eq_true h1,decide_eq_true h2,List.all_eq_true.mpr h]
 rfl
theorem low_of {z:Str} (h:nameB z=true):1<=z.length/\z.length<=6/\Low z:=by
 unfold nameB at h
 rw [Bool.and_eq_true,Bool.and_eq_true,decide_eq_true_eq,decide_eq_true_eq,List.all_eq_true] at h
 exact ⟨h.1.1,h.1.2,h.2⟩
theorem dats_strs (H:Hp):∀ xs:List Str,Dats H (xs.map V.str) (xs.map .str)
 | []=>.nil
 | x :: xs=>.cons (.str x) (dats_strs H xs)
theorem lay_strs:∀ {xs:List Str},(∀ x ∈ xs,nameB x=true)->PyData.canLayAll0 (xs.map .str)=true
 | [],_=>rfl
 | x :: xs,h=>by
  show (PyData.strOk x && PyData.canLayAll0 (xs.map .str))=true
  rw [lay_strs fun y hy=>h y (List.mem_cons_of_mem _ hy),Bool.and_true]
  obtain ⟨_,_,lo⟩:=low_of (h x List.mem_cons_self)
  unfold PyData.strOk
  rw [Array.all_eq_true_iff_forall_mem]
  intro c hc
  have:=lo c (by simpa using hc)
  unfold lowc at this
  rw [Bool.and_eq_true,decide_eq_true_eq,decide_eq_true_eq] at this
  rw [decide_eq_true_eq]
  (first|lia|omega)
theorem depth_strs:∀ xs:List Str,PyData.depthAll (xs.map .str)=0
 | []=>rfl
 | x :: xs=>by
  show max 0 (PyData.depthAll (xs.map .str))=0
  rw [depth_strs xs]
  rfl
end L2
namespace L2
open PySem PySem.Spec PyProof.Rows
theorem CompOk.caught {X:Cx} {scope:Scope} {cl:List (Str × Addr)} (clos:closureFor scope X.env=pure cl) (hcell:∀ y ∈ scope.names,y.2 ≠ .cell) (hkind:scope.kind=.function)
  (hnames:∀ y ∈ scope.names,y.2=.local->scope.names.lookup y.1=some .local) (hcl:∀ y ∈ cl,X.env.cells.lookup y.1=some y.2)
  (hfr:∀ y ∈ scope.names,y.2=.free->∃ c,cl.lookup y.1=some c):CompOk X scope cl:=by
 refine ⟨clos,hcell,hkind,hnames,fun x c h=>hcl _ (lookup_mem h),fun x h=>?_⟩
 have key:∀ k,(relabel scope X.env).names.lookup x=some k->k=.cell\/k=.free->∃ c,cl.lookup x=some c:=by
  intro k e hk
  have m:=lookup_mem e
  obtain ⟨⟨n,k'⟩,hm,e'⟩:=List.mem_map.mp m
  dsimp only at e'
  by_cases hf:k'=.free
  ·subst hf
   have en:n=x:=by
    by_cases hc:(NameKind.free == NameKind.free && X.env.scope.kind == .function && X.env.kindOf n == some .cell)=true
    ·rw [if_pos hc] at e'
     injection e'
    ·rw [if_neg hc] at e'
     injection e'
   subst en
   exact hfr _ hm rfl
  ·have:(k' == NameKind.free)=false:=by
    cases k' <;> first | rfl | exact absurd rfl hf
   rw [this] at e'
   simp at e'
   rcases hk with hk | hk
   ·exact absurd (e'.2.trans hk) (hcell _ hm)
   ·exact absurd (e'.2.trans hk) hf
 rcases h with h | h
 ·exact key _ h (.inl rfl)
 ·exact key _ h (.inr rfl)
theorem Carry.of {X:Cx} {cl:List (Str × Addr)} {scope:Scope} {N:List Str} {σ:St} (js:List (Option Nat)) (hl:js.length=N.length)
  (h:∀ (i j:Nat) (x:Str),N[i]? = some x->js[i]? = some (some j)->X.N[j]? = some x/\(X.env.kindOf x=some .cell\/X.env.kindOf x=some .free)/\((relabel scope X.env).names.lookup x=some .cell\/(relabel scope X.env).names.lookup x=some .free)) :
  Carry X cl scope N σ (js.map fun j=>j.bind fun j=>(σ[j]?).join):=by
 refine ⟨by rw [List.length_map,hl],fun i x v h1 h2=>?_⟩
 rw [List.getElem?_map] at h2
 cases e:js[i]? with
 | none=>rw [e] at h2; cases h2
 | some o=>
  rw [e] at h2
  cases o with
  | none=>cases h2
  | some j=>
   obtain ⟨a,b,c⟩:=h i j x h1 e
   refine ⟨⟨j,a,?_⟩,b,c⟩
   have h3:(σ[j]?).join=some v:=Option.some.inj h2
   cases e2:σ[j]? with
   | none=>rw [e2] at h3; cases h3
   | some o=>
    rw [e2] at h3
    have:o=some v:=h3
    rw [this]
end L2
namespace L2
open PySem PySem.Spec PyProof.Rows
abbrev Way:=Str × Str × Int
def wayD (u:Way):PyData:=.tuple [.str u.1,.str u.2.1,.int u.2.2]
def Alike (u v:Way):Prop:=(u.1=v.1/\u.2.1=v.2.1)\/(u.1=v.2.1/\u.2.1=v.1)
theorem nd_get {xs:List Str} (h:xs.Nodup) {i j:Nat} {x:Str} (a:xs[i]? = some x) (b:xs[j]? = some x):i=j:=nodup_ix h a b
def WaysC (xs:List Str) (ws:List Way):Prop:=(∀ u ∈ ws,u.1 ∈ xs/\u.2.1 ∈ xs/\u.1 ≠ u.2.1/\1<=u.2.2)/\(ws.Pairwise fun u v=>¬ Alike u v) /\
 ∀ j,0 < j->j < xs.length->∃ u ∈ ws,∃ i:Nat,i < j/\xs[i]? = some u.1/\xs[j]? = some u.2.1
theorem dats_way {H:Hp}:∀ {vs:List V} {ws:List Way} {i:Nat} {x:V},Dats H vs (ws.map wayD)->vs[i]? = some x->∃ u t,ws[i]? = some u/\x=.ref t/\H t=some (.tup [.str u.1,.str u.2.1,.int u.2.2])
 | _,[],i,x,.nil,e=>by cases e
 | _,u :: ws,0,x,.cons (v:=v) h _,e=>by
  have e':v=x:=by simpa using e
  subst e'
  cases h with
  | tup ha hd=>
   refine ⟨u,_,rfl,rfl,?_⟩
   cases hd with
   | cons h1 r1=>
    cases r1 with
    | cons h2 r2=>
     cases r2 with
     | cons h3 r3=>
      cases r3
      cases h1
      cases h2
      cases h3
      exact ha
 | _,u :: ws,i + 1,x,.cons _ r,e=>by
  obtain ⟨u',t,a,b⟩:=dats_way (i:=i) (x:=x) r (by simpa using e)
  exact ⟨u',t,by simpa using a,b⟩
theorem dats_app {H:Hp}:∀ {vs us:List V} {ds es:List PyData},Dats H vs ds->Dats H us es->Dats H (vs ++ us) (ds ++ es)
 | _,_,_,_,.nil,h=>h
 | _,_,_,_,.cons a r,h=>.cons a (dats_app r h)
theorem at_str {xs:List Str} {i:Int} (h0:0<=i) (h1:i < xs.length):∃ x,atI (xs.map V.str) i=some (.str x)/\xs[i.toNat]? = some x:=by
 obtain ⟨n,rfl⟩:∃ n:Nat,i=(n:Int):=⟨i.toNat,by (first|lia|omega)⟩
 have hn:n < xs.length:=by (first|lia|omega)
 exact ⟨xs[n],atI_nat (by rw [List.getElem?_map,List.getElem?_eq_getElem hn]; rfl),List.getElem?_eq_getElem hn⟩
theorem ix_listK (K:PySem.W.Frag) {X:Cx} (h:X.K=K):IxR X (rIxL K):=by subst h; exact ix_list
theorem ix_tupK (K:PySem.W.Frag) {X:Cx} (h:X.K=K):IxR X (rIxT K):=by subst h; exact ix_tup
theorem pg_tupK (K:PySem.W.Frag) {X:Cx} (h:X.K=K) {es:List Expr} {k:Nat} {t:TGs} {n:Nat} {pos:Pos} (hc:X.calm=true) (ht:PGs X es t)
  (hn:(assignEach es X.env).length=n:=by rfl) (hst:(assignEach es X.env).findIdx? (·.1)=none:=by rfl):PG X (.Tuple es k pos) (gTup K n t):=by subst h; exact pg_tup hc ht hn hst
end L2
namespace L2
open PySem PySem.W PyProof.Rows
section
variable {n:Nat} (hn:0 < n)
include hn
end
end L2
namespace L2
open PySem PySem.Spec PyProof.Rows PySem.W
theorem ObjOk.there {P:Program} {w:World} {H:Hp} {h:Heap} {a:Addr} {o:HO} (x:ObjOk P w H h a o):∃ ob,h.get? a=some ob:=by
 cases o with
 | lst xs=>obtain ⟨_,_,_,_,e⟩:=x; exact ⟨_,e⟩
 | tup xs=>obtain ⟨_,_,_,⟨ob,e,_⟩,_⟩:=x; exact ⟨ob,e⟩
 | dK kvs=>obtain ⟨_,_,_,_,o,_,_,e,_⟩:=x; exact ⟨o,e⟩
 | dT kvs=>obtain ⟨_,_,_,_,o,_,_,e,_⟩:=x; exact ⟨o,e⟩
 | set S n=>obtain ⟨o,_,_,_,e,_⟩:=x; exact ⟨o,e⟩
 | ins C dx fs=>obtain ⟨_,_,_,e,_⟩:=x; exact ⟨_,e⟩
 | own y=>exact x
 | xd fs=>obtain ⟨_,⟨_,_,_,e,_⟩,_⟩:=x; exact ⟨_,e⟩
 | rng lo hi=>obtain ⟨_,_,_,e⟩:=x; exact ⟨_,e⟩
 | frz ob u=>obtain ⟨e,_⟩:=x; exact ⟨_,e⟩
 | tbl ps=>exact ⟨_,(show h.get? a=some _ from x)⟩
 | met f y=>exact ⟨_,(show h.get? a=some _ from x)⟩
 | ext φ=>obtain ⟨_,⟨_,e⟩,_⟩:=x; exact ⟨_,e⟩
theorem Inv.laidF {X:Cx} {pins:List (Addr × Obj)} {σ:St} {H:Hp} {s:Shared} {h2:Heap} {D:Addr} {o:HO} {m:Str->Option Value} (I:Inv X pins σ H s)
  (hl:s.heap.Ns X.env.locals m/\∀ (i:Nat) (x:Str) (v:V),X.N[i]? = some x->σ[i]? = some (some v)->Vis X.env.scope x->∃ u,RelV v u/\Look X.env s.heap m x u) (hn:h2.Ns X.env.locals m)
  (kp:∀ b ob,b ≠ X.env.locals->s.heap.get? b=some ob->h2.get? b=some ob) (hD:s.heap.get? D=none) (hDL:D ≠ X.env.locals) (new:ObjOk X.prog X.w (upd H D o) h2 D o):Inv X pins σ (upd H D o) { s with heap:=h2 }:=by
 have fD:H D=none:=by
  cases z:H D with
  | none=>rfl
  | some u=>
   obtain ⟨ob,e⟩:=ObjOk.there (I.hok D u z)
   rw [hD] at e
   cases e
 have neL:∀ b ob,X.s₀.heap.get? b=some ob->b ≠ X.env.locals:=fun b ob e=>Nat.ne_of_lt (Nat.lt_of_lt_of_le (Heap.lt_size e) I.ok.above)
 have neD:∀ b ob,s.heap.get? b=some ob->b ≠ D:=fun b ob e z=>by rw [z,hD] at e; cases e
 have cellK:∀ x c,X.env.cells.lookup x=some c->∀ v,s.heap.IsCell c v->h2.IsCell c v:=fun x c e v ⟨ob,ho,hd⟩=>⟨ob,kp c ob (I.cne x c e) ho,hd⟩
 refine ⟨I.ok,I.os,I.bare,⟨?_,?_,?_,?_,?_,?_,?_⟩,⟨m,hn,?_⟩,?_,?_,?_,?_,?_,I.len⟩
 ·exact fun b ob e n hb hx=>kp b ob (neL b ob e) (I.base.keep b ob e n hb hx)
 ·intro b ob e n hb hx
  obtain ⟨sl,q⟩:=I.base.slot b ob e n hb hx
  exact ⟨sl,kp b _ (neL b ob e) q⟩
 ·intro b ob e n hx
  obtain ⟨ob',q⟩:=I.base.there b ob e hx
  rw [upd_ne (neD b ob' q)]
  exact I.base.free b ob e n hx
 ·intro b ob e hx
  obtain ⟨ob',q⟩:=I.base.there b ob e hx
  exact ⟨ob',kp b ob' (neL b ob e) q⟩
 ·intro b xs e
  have q:=I.base.tups b xs e
  rw [upd_ne (ne_of_none q fD)]
  exact q
 ·intro b ob u e
  have q:=I.base.frzs b ob u e
  rw [upd_ne (ne_of_none q fD)]
  exact q
 ·intro b ps e
  obtain ⟨more,q⟩:=I.base.tbls b ps e
  exact ⟨more,by rw [upd_ne (ne_of_none q fD)]; exact q⟩
 ·intro i x v e1 e2 e3
  obtain ⟨u,r,l⟩:=hl.2 i x v e1 e2 e3
  refine ⟨u,r,?_⟩
  rcases l with l | ⟨k,c,e,z⟩
  ·exact .inl l
  ·exact .inr ⟨k,c,e,cellK x c e _ z⟩
 ·intro x c e
  obtain ⟨v,z⟩:=I.cell x c e
  exact ⟨v,cellK x c e v z⟩
 ·rw [upd_ne (Ne.symm hDL)]
  exact I.free
 ·intro x c e
  obtain ⟨v,ob,ho,_⟩:=I.cell x c e
  rw [upd_ne (neD c ob ho)]
  exact I.freeC x c e
 ·intro p hp
  obtain ⟨e,n,ne,nf,d⟩:=I.pin p hp
  exact ⟨kp _ _ ne e,by rw [upd_ne (neD _ _ e)]; exact n,ne,nf,d⟩
 ·intro b u e
  by_cases hb:b=D
  ·subst hb
   rw [upd_same] at e
   cases e
   exact new
  ·rw [upd_ne hb] at e
   refine (I.hok b u e).stay (fun c v hc q=>kp c v ?_ q) (fun c q=>by rw [upd_ne (ne_of_none q fD)]; exact q) fun c xs q=>by rw [upd_ne (ne_of_none q fD)]; exact q
   rintro rfl
   rcases hc with rfl | hc
   ·rw [I.free] at e; cases e
   ·rw [I.free] at hc; cases hc
end L2
namespace L2
open PySem PySem.Spec PyProof.Rows
section
variable {prog:Program} {w:World} {A:Around} {E:Value->Shared->Prop} {s:Shared}
end
def minS (a b:Str):Str:=if b.cps.toList < a.cps.toList then b else a
def maxS (a b:Str):Str:=if a.cps.toList < b.cps.toList then b else a
end L2
namespace L2
open PySem PySem.Spec PyProof.Rows
theorem strs_of {ss:List Str}:∀ {us:List Value},Vals (ss.map V.str) us->StrsAre us ss:=by
 induction ss with
 | nil=>intro us r; cases r; exact .nil
 | cons x ss ih=>
  intro us r
  cases r with
  | cons r1 r2=>
   obtain ⟨t,rfl⟩:=r1
   exact .cons x t (ih r2)
theorem of_strs:∀ {us:List Value} {ss:List Str},StrsAre us ss->Vals (ss.map V.str) us
 | _,_,.nil=>.nil
 | _,_,.cons x t r=>.cons ⟨t,rfl⟩ (of_strs r)
theorem call_sorted_strs {X:Cx}:CallR X (.builtin "sorted") (fun xs H Q=>∃ (a:Addr) (ss:List Str),xs=[.ref a]/\SqL X.K H a (ss.map V.str)/\ss.length < 64 /\
  ∀ (l:Addr) (ss':List Str),H l=none->ss'.Perm ss->sortedS ss'=true->Q (.ref l) (upd H l (.lst (ss'.map V.str)))):=by
 intro pins s σ H xs us Q I r h
 obtain ⟨a,ss,rfl,ha,h64,q⟩:=h
 obtain ⟨u,rfl,ru⟩:=vals1 r
 cases ru
 obtain ⟨its,rv,pl,hz⟩:=I.list ha
 have hl:its.length=ss.length:=by rw [<-rv.length,List.length_map]
 refine sorted_strs pl.isList (strs_of rv) (by (first|lia|omega)) fun out ss' h1 h2 h3=>?_
 obtain ⟨e,he⟩:=sortedAll_at s.heap its out
 refine ⟨.ref (s.heap.objs.size + 1),_,I.laid (o:=.lst (ss'.map V.str)) (t':=s.toks) (fun b o z=>sortedAll_old z) (Nat.le_succ _) ⟨?_,out.toList,e,of_strs h1,by simpa using he⟩,rfl,q _ ss' (I.hok.fresh (Nat.le_succ _)) h2 h3⟩
 rw [List.length_map,h2.length_eq]
 have:100 < sizeLine:=by decide
 (first|lia|omega)
end L2
namespace L2
open PySem PySem.Spec PySem.W PyProof.Rows
theorem pairs_two {vs:List Value} {p:Keyed} (h:p ∈ (pairsOf vs).toList):p=(p.2,p.2)/\p.2 ∈ vs:=by
 rw [pairsOf_toList] at h
 obtain ⟨e,m⟩:=mem_zip_self h
 refine ⟨?_,e ▸ m⟩
 obtain ⟨x,y⟩:=p
 exact Prod.ext e rfl
theorem pairs_snd (vs:List Value):(pairsOf vs).toList.map (·.2)=vs:=by
 rw [pairsOf_toList]
 induction vs with
 | nil=>rfl
 | cons v vs ih=>rw [List.zip_cons_cons,List.map_cons,ih]
theorem out_perm {vs:List Value} {xs:Array Keyed} (h:xs.Perm (pairsOf vs)):(xs.toList.map (·.2)).Perm vs:=by
 have q:=(Array.perm_iff_toList_perm.mp h).map (·.2)
 rw [pairs_snd] at q
 exact q
theorem out_rise {lt:Keyed->Keyed->Bool} {vs:List Value} {xs:Array Keyed} (h:xs.Perm (pairsOf vs)) (hs:xs.toList.Pairwise (Nl lt)):(xs.toList.map (·.2)).Pairwise (fun u v=>lt (v,v) (u,u)=false):=by
 rw [List.pairwise_map]
 refine hs.imp_of_mem fun {p q} hp hq n=>?_
 have e1:=(pairs_two ((Array.perm_iff_toList_perm.mp h).mem_iff.mp hp)).1
 have e2:=(pairs_two ((Array.perm_iff_toList_perm.mp h).mem_iff.mp hq)).1
 rw [<-e1,<-e2]
 exact n
section
variable {prog:Program} {w:World} {A:Around} {E:Value->Shared->Prop} {s:Shared} {lt:Keyed->Keyed->Bool}
def Cmpd (prog:Program) (w:World) (s:Shared) (lt:Keyed->Keyed->Bool) (vs:List Value):Prop:=
 2<=vs.length->∀ (A:Around) (h':Heap),(∀ b o,s.heap.get? b=some o->h'.get? b=some o) ->
  ∃ κ,(∀ (Q:SortKind->Shared->Prop) (E:Value->Shared->Prop),Q κ { s with heap:=h' }->wpAny (model prog w) A (keyKind' vs.toArray) Q E { s with heap:=h' })/\Ans prog w A { s with heap:=h' } κ lt (pairsOf vs)
theorem listSortG {a:Addr} {vs:List Value} {n:Nat} {P:Fin->Shared->Prop} (sw:Swo lt) (lies:s.heap.get? a=some (seqObj "list" vs.toArray n)) (few:vs.length<=sizeLine)
  (cm:2<=vs.length->∀ h',(∀ b o,b ≠ a->s.heap.get? b=some o->h'.get? b=some o) ->
   ∃ κ,(∀ (Q:SortKind->Shared->Prop) (E:Value->Shared->Prop),Q κ { s with heap:=h' }->wpAny (model prog w) A (keyKind' vs.toArray) Q E { s with heap:=h' })/\Ans prog w A { s with heap:=h' } κ lt (pairsOf vs))
  (k:∀ out:List Value,out.Perm vs->out.Pairwise (fun u v=>lt (v,v) (u,u)=false)->P (.done (.ret .none)) { s with heap:=sortedHeap s.heap a vs out.toArray }) :
  wpAny (model prog w) A (Builtin.«list.sort» ⟨[.ref a],[]⟩) P E s:=by
 have alt:=Heap.lt_size lies
 rw [list_sort_plain]
 refine wpAny_bind (listItems_at lies rfl (wpAny_bind (listUpdate_at lies rfl ?_ (by simpa using few) (Nat.zero_le _))))
 obtain ⟨c,lies1⟩:∃ c,(s.heap.update a (Obj.mapSeq fun _=>#[])).get? a=some (seqObj "list" #[] c):=⟨_,get?_update_seq lies (fun _=>#[])⟩
 refine wpAny_bind (seqEpoch_at lies1 rfl (wpAny_bind (wpAny_newTuple (wpAny_bind (wpAny_newList (wpAny_holding ?_) (Nat.zero_le _))) (by simpa using few))))
 obtain ⟨h3,eh3⟩:∃ h3,h3=((s.heap.update a (Obj.mapSeq fun _=>(#[]:Array Value))).push (seqObj "tuple" vs.toArray 0)).push (seqObj "list" #[] 0):=⟨_,rfl⟩
 have lies3:h3.get? a=some (seqObj "list" #[] c):=by
  rw [eh3]
  exact Heap.get?_push_of_some _ (Heap.get?_push_of_some _ lies1)
 have keep3:∀ b o,b ≠ a->s.heap.get? b=some o->h3.get? b=some o:=fun b o hb e=>by
  rw [eh3]
  exact Heap.get?_push_of_some _ (Heap.get?_push_of_some _ ((Heap.get?_update_ne _ _ _ _ hb).trans e))
 show wpAny (model prog w) A _ P E { s with heap:=((s.heap.update a (Obj.mapSeq fun _=>(#[]:Array Value))).push (seqObj "tuple" vs.toArray 0)).push (seqObj "list" #[] 0) }
 rw [<-eh3]
 have last:∀ st':SortSt,(arrOf st').Perm (pairsOf vs)->(arrOf st').toList.Pairwise (Nl lt)->P (.done (.ret .none)) { s with heap:=h3.update a (Obj.mapSeq fun _=>(arrOf st').map (·.2)) }:=fun st' hp hs=>by
  have e:(arrOf st').map (·.2)=((arrOf st').toList.map (·.2)).toArray:=by apply Array.toList_inj.mp; simp
  have q:=k _ (out_perm hp) (out_rise hp hs)
  rw [<-e] at q
  rw [eh3]
  exact q
 have zl:∀ st':SortSt,(arrOf st').Perm (pairsOf vs)->((arrOf st').map (·.2)).size<=sizeLine + 1:=fun st' hp=>by
  rw [Array.size_map,hp.size_eq,pairsOf_size]
  (first|lia|omega)
 have zv:vs.toArray.size=vs.length:=rfl
 dsimp only
 rcases Nat.lt_or_ge vs.toArray.size 2 with lo | hi
 ·rw [if_pos lo,if_pos lo]
  refine wpAny_bind (wpAny_pure ?_)
  rw [StateT.run_pure]
  refine wpAny_bind (wpAny_pure (wpAny_bind (seqEpoch_at lies3 rfl ?_)))
  have p0:(arrOf (SortSt.mk' general' (vs.toArray.zip vs.toArray) #[] 7 none)).Perm (pairsOf vs):=Array.Perm.refl _
  refine wpAny_bind (listUpdate_at lies3 rfl ?_ (Nat.zero_le _) (zl _ p0))
  rw [bne_self_eq_false]
  refine wpAny_pure (last _ p0 (at_pw fun i j hij hj=>?_))
  have:=p0.size_eq
  rw [pairsOf_size] at this
  have hj':j < (arrOf (SortSt.mk' general' (vs.toArray.zip vs.toArray) #[] 7 none)).size:=hj
  (first|lia|omega)
 ·rw [if_neg (by (first|lia|omega)),if_neg (by (first|lia|omega))]
  obtain ⟨κ,k1,k2⟩:=cm (by (first|lia|omega)) h3 keep3
  refine wpAny_bind (k1 _ _ ?_)
  refine wpAny_bind (wpAny_mono (wpS_sortRunsG (a0:=pairsOf vs) (st:=SortSt.mk' κ (vs.toArray.zip vs.toArray) #[] 7 none)
   (Q:=fun _ st'=>(arrOf st').Perm (pairsOf vs)/\failedOf st'=none/\(arrOf st').toList.Pairwise (Nl lt)) sw k2 rfl rfl rfl rfl (by rw [pairsOf_size]; (first|lia|omega)) fun st' a1 a2 a3=>⟨a1,a2,a3⟩) ?_ fun _ _ e=>e)
  rintro ⟨u,st'⟩ s' ⟨rfl,hp,hf,hs⟩
  refine wpAny_bind (seqEpoch_at lies3 rfl (wpAny_bind (listUpdate_at lies3 rfl ?_ (Nat.zero_le _) (zl _ hp))))
  dsimp only
  rw [hf,bne_self_eq_false]
  exact wpAny_pure (last st' hp hs)
theorem sortedG {l:Addr} {vs:List Value} {Q:Value->Shared->Prop} (sw:Swo lt) (hl:s.heap.IsList l vs.toArray) (few:vs.length<=sizeLine) (cm:Cmpd prog w s lt vs)
  (k:∀ out:List Value,out.Perm vs->out.Pairwise (fun u v=>lt (v,v) (u,u)=false)->Q (.ref (s.heap.objs.size + 1)) { s with heap:=sortedAll s.heap vs out.toArray }) :
  wpAny (model prog w) A (call (.builtin "sorted") [.ref l]) Q E s:=by
 refine Calls.call_function_entry kind_sorted plain_sorted entry_sorted (args_sorted1 _) ?_
 unfold Builtin.«sorted»
 refine wpAny_bind (m:=checkCount "sorted" 1 1 _) (wpAny_pure (wpAny_bind (collect_list hl ?_ few)))
 refine wpAny_bind (wpAny_newList ?_ (by simpa using few))
 obtain ⟨h1,eh1⟩:∃ h1,h1=(s.heap.push (seqObj "list" #[] 0)).update s.heap.objs.size (Obj.mapSeq (· ++ vs.toArray)):=⟨_,rfl⟩
 have z1:h1.objs.size=s.heap.objs.size + 1:=by rw [eh1,Heap.size_update,size_push']
 have lies:(h1.push (seqObj "list" vs.toArray 0)).get? (s.heap.objs.size + 1)=some (seqObj "list" vs.toArray 0):=by
  rw [<-z1]
  exact Heap.get?_push_size _ rfl
 have keep:∀ b o,s.heap.get? b=some o->(h1.push (seqObj "list" vs.toArray 0)).get? b=some o:=fun b o q=>by
  have hb:=Heap.lt_size q
  refine Heap.get?_push_of_some _ ?_
  rw [eh1,Heap.get?_update_ne _ _ _ _ (Nat.ne_of_lt hb)]
  exact Heap.get?_push_of_some _ q
 show wpAny _ _ _ _ _ { s with heap:=((s.heap.push (seqObj "list" #[] 0)).update s.heap.objs.size (Obj.mapSeq (· ++ vs.toArray))).push (seqObj "list" vs.toArray 0) }
 rw [<-eh1,z1]
 refine wpAny_bind (wpAny_holding (wpAny_call_entry slot_list_sort ⟨_,lies,rfl⟩ entry_list_sort (listSortG (s:={ s with heap:=h1.push (seqObj "list" vs.toArray 0) }) sw lies few ?_ fun out o1 o2=>⟨_,rfl,wpAny_pure ⟨_,rfl,?_⟩⟩) (args_list_sort _)))
 ·intro h2 h' kp
  exact cm h2 _ h' fun b o e=>kp b o (Nat.ne_of_lt (Nat.lt_succ_of_lt (Heap.lt_size e))) (keep b o e)
 ·have q:=k out o1 o2
  unfold sortedAll at q
  rw [<-eh1] at q
  exact q
end
end L2
namespace L2
open PySem PySem.Spec PySem.W PyProof.Rows
inductive Atm where
 | i (n:Int)
 | s (x:Str)
 deriving DecidableEq
def atmLt:Atm->Atm->Bool
 | .i a,.i b=>decide (a < b)
 | .s a,.s b=>decide (a.cps.toList < b.cps.toList)
 | .i _,.s _=>true
 | .s _,.i _=>false
def lexLt:List Atm->List Atm->Bool
 | [],[]=>false
 | [],_ :: _=>true
 | _ :: _,[]=>false
 | x :: xs,y :: ys=>if x=y then lexLt xs ys else atmLt x y
theorem atm_irr (a:Atm):atmLt a a=false:=by
 cases a with
 | i n=>simp [atmLt]
 | s x=>exact strKind.irrefl x.cps.toList
theorem atm_tra:∀ {a b c:Atm},atmLt a b=true->atmLt b c=true->atmLt a c=true
 | .i a,.i b,.i c,h1,h2=>by
  simp only [atmLt,decide_eq_true_eq] at h1 h2 ⊢
  (first|lia|omega)
 | .i _,.i _,.s _,_,_=>rfl
 | .i _,.s _,.s _,_,_=>rfl
 | .i _,.s _,.i _,_,h=>by cases h
 | .s _,.i _,_,h,_=>by cases h
 | .s _,.s _,.i _,_,h=>by cases h
 | .s x,.s y,.s z,h1,h2=>strKind.trans x.cps.toList y.cps.toList z.cps.toList h1 h2
theorem atm_tot {a b:Atm} (h:a ≠ b):atmLt a b=true\/atmLt b a=true:=by
 cases a <;> cases b <;> simp [atmLt]
 ·have:∀ x y:Int,Atm.i x ≠ Atm.i y->x < y\/y < x:=fun x y h=>by
   have:x ≠ y:=fun e=>h (by rw [e])
   (first|lia|omega)
  exact this _ _ h
 ·rename_i x y
  by_cases h1:x.cps.toList < y.cps.toList
  ·exact .inl h1
  ·by_cases h2:y.cps.toList < x.cps.toList
   ·exact .inr h2
   ·exfalso
    apply h
    have e:=strKind.total x.cps.toList y.cps.toList (decide_eq_false h1) (decide_eq_false h2)
    cases x
    cases y
    rw [Array.toList_inj] at e
    subst e
    rfl
theorem lex_irr:∀ a,lexLt a a=false
 | []=>rfl
 | x :: xs=>by unfold lexLt; rw [if_pos rfl]; exact lex_irr xs
theorem atm_ne {a b:Atm} (h:atmLt a b=true):a ≠ b:=fun e=>by
 rw [e,atm_irr] at h
 cases h
theorem lex_tra:∀ a b c,lexLt a b=true->lexLt b c=true->lexLt a c=true
 | [],[],_,h,_=>by cases h
 | [],_ :: _,[],_,h=>by cases h
 | [],_ :: _,_ :: _,_,_=>rfl
 | _ :: _,[],_,h,_=>by cases h
 | _ :: _,_ :: _,[],_,h=>by cases h
 | x :: xs,y :: ys,z :: zs,h1,h2=>by
  unfold lexLt at h1 h2 ⊢
  by_cases e1:x=y
  ·rw [if_pos e1] at h1
   by_cases e2:y=z
   ·rw [if_pos e2] at h2
    rw [if_pos (e1.trans e2)]
    exact lex_tra xs ys zs h1 h2
   ·rw [if_neg e2] at h2
    rw [if_neg (by rw [e1]; exact e2),e1]
    exact h2
  ·rw [if_neg e1] at h1
   by_cases e2:y=z
   ·rw [if_neg (by rw [<-e2]; exact e1),<-e2]
    exact h1
   ·rw [if_neg e2] at h2
    have h3:=atm_tra h1 h2
    rw [if_neg (atm_ne h3)]
    exact h3
theorem lex_tot:∀ a b,lexLt a b=false->lexLt b a=false->a=b
 | [],[],_,_=>rfl
 | [],_ :: _,h,_=>by cases h
 | _ :: _,[],_,h=>by cases h
 | x :: xs,y :: ys,h1,h2=>by
  unfold lexLt at h1 h2
  by_cases e:x=y
  ·rw [if_pos e] at h1
   rw [if_pos e.symm] at h2
   rw [e,lex_tot xs ys h1 h2]
  ·rw [if_neg e] at h1
   rw [if_neg (fun z=>e z.symm)] at h2
   rcases atm_tot e with q | q
   ·rw [h1] at q; cases q
   ·rw [h2] at q; cases q
theorem lex_neg (a b c:List Atm) (h:lexLt a c=true):lexLt a b=true\/lexLt b c=true:=by
 cases e1:lexLt a b
 ·right
  cases e2:lexLt b a
  ·rw [<-lex_tot a b e1 e2]; exact h
  ·exact lex_tra _ _ _ e2 h
 ·exact .inl rfl
theorem lex_swo (f:Value->List Atm):Swo (fun x y=>lexLt (f x.1) (f y.1)):=
 ⟨fun a=>lex_irr _,fun a b c=>lex_tra _ _ _,fun a b c=>lex_neg _ _ _⟩
theorem rise_uniq {α:Type} (f:α->List Atm) (inj:∀ a b,f a=f b->a=b):∀ {xs ys:List α},xs.Perm ys->xs.Pairwise (fun a b=>lexLt (f b) (f a)=false)->ys.Pairwise (fun a b=>lexLt (f b) (f a)=false)->xs=ys
 | [],ys,p,_,_=>by rw [p.nil_eq]
 | x :: xs,[],p,_,_=>by have:=p.length_eq; simp at this
 | x :: xs,y :: ys,p,h1,h2=>by
  have e:x=y:=by
   rcases List.mem_cons.mp (p.mem_iff.mp List.mem_cons_self) with e | m1
   ·exact e
   ·rcases List.mem_cons.mp (p.mem_iff.mpr List.mem_cons_self) with e | m2
    ·exact e.symm
    ·exact inj _ _ (lex_tot _ _ ((List.pairwise_cons.mp h2).1 x m1) ((List.pairwise_cons.mp h1).1 y m2))
  subst e
  rw [rise_uniq f inj (List.Perm.cons_inv p) (List.pairwise_cons.mp h1).2 (List.pairwise_cons.mp h2).2]
def atmOf:Value->Atm
 | .int n _=>.i n
 | .str x _=>.s x
 | _=>.i 0
def vAtm:V->Atm
 | .int n=>.i n
 | .str x=>.s x
 | _=>.i 0
def keyIn (h:Heap):Value->List Atm
 | .ref a=>match h.get? a with
  | some o=>(match o.data with
   | .seq xs _=>xs.toList.map atmOf
   | _=>[])
  | none=>[]
 | v=>[atmOf v]
def keyV (H:Hp):V->List Atm
 | .ref a=>match H a with
  | some (.tup ys)=>ys.map vAtm
  | _=>[]
 | v=>[vAtm v]
def KindV (k:Bool) (v:V):Prop:=if k=true then ∃ x,v=.str x else ∃ n,v=.int n
def KindU (k:Bool) (v:Value):Prop:=if k=true then ∃ x t,v=.str x t else ∃ n t,v=.int n t
theorem kind_uv {k:Bool} {v:V} {u:Value} (r:RelV v u) (h:KindV k v):KindU k u/\atmOf u=vAtm v:=by
 unfold KindV at h
 unfold KindU
 cases k with
 | true=>
  simp only [if_true] at h ⊢
  obtain ⟨x,rfl⟩:=h
  obtain ⟨t,rfl⟩:=r
  exact ⟨⟨x,t,rfl⟩,rfl⟩
 | false=>
  simp only [Bool.false_eq_true,if_false] at h ⊢
  obtain ⟨x,rfl⟩:=h
  obtain ⟨t,rfl⟩:=r
  exact ⟨⟨x,t,rfl⟩,rfl⟩
def TupK (H:Hp) (kd:Nat->Bool) (v:V):Prop:=∃ t ys,v=.ref t/\H t=some (.tup ys)/\ys ≠ []/\∀ i y,ys[i]? = some y->KindV (kd i) y
def TupU (h:Heap) (kd:Nat->Bool) (v:Value):Prop:=∃ t o xs n,v=.ref t/\h.get? t=some o/\o.cls=.type "tuple"/\o.data=.seq xs n/\0 < xs.size/\∀ (i:Nat) x,xs.toList[i]? = some x->KindU (kd i) x
theorem tup_uv {X:Cx} {pins:List (Addr × Obj)} {σ:St} {H:Hp} {s:Shared} (I:Inv X pins σ H s) {kd:Nat->Bool} {v:V} {u:Value} (r:RelV v u) (h:TupK H kd v):TupU s.heap kd u/\keyIn s.heap u=keyV H v:=by
 obtain ⟨t,ys,rfl,ht,ne,hy⟩:=h
 cases r
 obtain ⟨_,its,rv,⟨o,ho,hc,n,hd⟩,_⟩:=(show ObjOk X.prog X.w H s.heap t (.tup _) from I.hok t _ ht)
 have e:keyV H (.ref t)=ys.map vAtm:=by
  show (match H t with | some (.tup ys)=>ys.map vAtm | _=>[])=_
  rw [ht]
 have e2:keyIn s.heap (.ref t)=its.map atmOf:=by
  show (match s.heap.get? t with | some o=>(match o.data with | .seq xs _=>xs.toList.map atmOf | _=>[]) | none=>[])=_
  rw [ho]
  dsimp only
  rw [hd]
 have all:∀ {ys:List V} {its:List Value} (k:Nat),Vals ys its->(∀ i y,ys[i]? = some y->KindV (kd (k + i)) y)->(∀ (i:Nat) x,its[i]? = some x->KindU (kd (k + i)) x)/\its.map atmOf=ys.map vAtm:=by
  intro ys
  induction ys with
  | nil=>intro its k rv _; cases rv; exact ⟨fun i x e=>by simp at e,rfl⟩
  | cons y ys ih=>
   intro its k rv hy
   cases rv with
   | cons r1 r2=>
    obtain ⟨a1,a2⟩:=kind_uv r1 (hy 0 y rfl)
    obtain ⟨b1,b2⟩:=ih (k + 1) r2 fun i z e=>by
     have:=hy (i + 1) z (by simpa using e)
     rw [show k + 1 + i=k + (i + 1) by (first|lia|omega)]
     exact this
    refine ⟨fun i x e=>?_,by rw [List.map_cons,List.map_cons,a2,b2]⟩
    cases i with
    | zero=>
     rw [List.getElem?_cons_zero] at e
     cases e
     exact a1
    | succ i=>
     have:=b1 i x (by simpa using e)
     rw [show k + 1 + i=k + (i + 1) by (first|lia|omega)] at this
     exact this
 obtain ⟨a1,a2⟩:=all 0 rv fun i y e=>by rw [Nat.zero_add]; exact hy i y e
 refine ⟨⟨t,o,its.toArray,n,rfl,ho,hc,hd,?_,fun i x e=>?_⟩,by rw [e,e2,a2]⟩
 ·have:=rv.length
  have:0 < ys.length:=List.length_pos_iff.mpr ne
  simp
  (first|lia|omega)
 ·have:=a1 i x (by simpa using e)
  rw [Nat.zero_add] at this
  exact this
section
variable {prog:Program} {w:World} {A:Around} {E:Value->Shared->Prop} {s:Shared} {Q:Bool->Shared->Prop}
theorem one_atm {k b:Bool} {u v:Value} (hu:KindU k u) (hv:KindU k v) (h:Q (atmLt (atmOf u) (atmOf v)) s):wpAny (model prog w) A (oneLt' b u v) Q E s:=by
 unfold KindU at hu hv
 cases k with
 | true=>
  simp only [if_true] at hu hv
  obtain ⟨x,t,rfl⟩:=hu
  obtain ⟨y,t',rfl⟩:=hv
  cases b with
  | true=>exact oneLt_str h
  | false=>exact kat_one _ _ (PySem.P.lt_str h)
 | false=>
  simp only [Bool.false_eq_true,if_false] at hu hv
  obtain ⟨x,t,rfl⟩:=hu
  obtain ⟨y,t',rfl⟩:=hv
  cases b with
  | true=>exact oneLt_int h
  | false=>exact kat_one _ _ (lt_int h)
theorem eq_atm {k:Bool} {u v:Value} (hu:KindU k u) (hv:KindU k v):SeqAt.EqAt A s u v (decide (atmOf u=atmOf v)):=by
 unfold KindU at hu hv
 cases k with
 | true=>
  simp only [if_true] at hu hv
  obtain ⟨x,t,rfl⟩:=hu
  obtain ⟨y,t',rfl⟩:=hv
  have e:decide (atmOf (.str x t)=atmOf (.str y t'))=(x == y):=by
   show decide (Atm.s x=Atm.s y)=_
   rw [Bool.eq_iff_iff]
   simp
  rw [e]
  exact SeqAt.EqAt.str_str x t y t'
 | false=>
  simp only [Bool.false_eq_true,if_false] at hu hv
  obtain ⟨x,t,rfl⟩:=hu
  obtain ⟨y,t',rfl⟩:=hv
  have e:decide (atmOf (.int x t)=atmOf (.int y t'))=(x == y):=by
   show decide (Atm.i x=Atm.i y)=_
   rw [Bool.eq_iff_iff]
   simp
  rw [e]
  exact SeqAt.EqAt.int_int x t y t'
theorem kat_atoms {b:Bool} {kd:Nat->Bool}:∀ (xs ys:List Value) (i:Nat),(∀ (j:Nat) x,xs[j]? = some x->KindU (kd (i + j)) x)->(∀ (j:Nat) x,ys[j]? = some x->KindU (kd (i + j)) x) ->
  Q (lexLt (xs.map atmOf) (ys.map atmOf)) s->KatLex prog w A b (decide (xs.length < ys.length)) Q (xs.zip ys) i s
 | [],[],i,_,_,h=>h
 | [],y :: ys,i,_,_,h=>h
 | x :: xs,[],i,_,_,h=>h
 | x :: xs,y :: ys,i,hx,hy,h=>by
  have kx:KindU (kd i) x:=hx 0 x rfl
  have ky:KindU (kd i) y:=hy 0 y rfl
  rw [List.map_cons,List.map_cons] at h
  unfold lexLt at h
  refine kat_cons (eq_atm kx ky _ _ _ _ ?_)
  refine kat_go (fun e=>kat_yes ?_) (fun e=>kat_no (one_atm kx ky ?_))
  ·have e':=of_decide_eq_true e
   rw [if_pos e'] at h
   have r:=kat_atoms (b:=b) (kd:=kd) xs ys (i + 1) (fun j z e=>by rw [show i + 1 + j=i + (j + 1) by (first|lia|omega)]; exact hx (j + 1) z (by simpa using e)) (fun j z e=>by rw [show i + 1 + j=i + (j + 1) by (first|lia|omega)]; exact hy (j + 1) z (by simpa using e)) h
   have e2:decide ((x :: xs).length < (y :: ys).length)=decide (xs.length < ys.length):=by simp
   rw [e2]
   exact r
  ·have e':=of_decide_eq_false e
   rw [if_neg e'] at h
   exact h
theorem tup_lt {kd:Nat->Bool} {u v:Value} (hu:TupU s.heap kd u) (hv:TupU s.heap kd v) (h:Q (lexLt (keyIn s.heap u) (keyIn s.heap v)) s):wpAny (model prog w) A (keyLt' (tuples' true) u v) Q E s:=by
 obtain ⟨t,o,xs,n,rfl,ho,hc,hd,p,hx⟩:=hu
 obtain ⟨t',o',xs',n',rfl,ho',hc',hd',p',hx'⟩:=hv
 have e1:keyIn s.heap (.ref t)=xs.toList.map atmOf:=by
  show (match s.heap.get? t with | some o=>(match o.data with | .seq xs _=>xs.toList.map atmOf | _=>[]) | none=>[])=_
  rw [ho]
  dsimp only
  rw [hd]
 have e2:keyIn s.heap (.ref t')=xs'.toList.map atmOf:=by
  show (match s.heap.get? t' with | some o=>(match o.data with | .seq xs _=>xs.toList.map atmOf | _=>[]) | none=>[])=_
  rw [ho']
  dsimp only
  rw [hd']
 rw [e1,e2] at h
 refine kat_lt ho hd ho' hd' ?_
 have e3:decide (xs.size < xs'.size)=decide (xs.toList.length < xs'.toList.length):=by simp
 rw [e3]
 exact kat_atoms (kd:=kd) _ _ 0 (fun j x e=>by rw [Nat.zero_add]; exact hx j x e) (fun j x e=>by rw [Nat.zero_add]; exact hx' j x e) h
theorem tups_cmpd {kd:Nat->Bool} {vs:List Value} (h:∀ v ∈ vs,TupU s.heap kd v):Cmpd prog w s (fun x y=>lexLt (keyIn s.heap x.1) (keyIn s.heap y.1)) vs:=by
 intro h2 A h' kp
 have h1:∀ v ∈ vs,TupU h' kd v/\keyIn h' v=keyIn s.heap v:=fun v hv=>by
  obtain ⟨t,o,xs,n,rfl,ho,hc,hd,p,hx⟩:=h v hv
  refine ⟨⟨t,o,xs,n,rfl,kp t o ho,hc,hd,p,hx⟩,?_⟩
  show (match h'.get? t with | some o=>(match o.data with | .seq xs _=>xs.toList.map atmOf | _=>[]) | none=>[])=(match s.heap.get? t with | some o=>(match o.data with | .seq xs _=>xs.toList.map atmOf | _=>[]) | none=>[])
  rw [ho,kp t o ho]
 refine ⟨tuples' true,?_,?_⟩
 ·intro Q E hq
  have tups:∀ l:List Value,(∀ v ∈ l,TupU h' kd v)->∃ fs:List Value,KatTups h' l fs/\fs.length=l.length/\∀ f ∈ fs,KindU (kd 0) f:=by
   intro l
   induction l with
   | nil=>intro _; exact ⟨[],KatTups.nil,rfl,fun f hf=>nomatch hf⟩
   | cons v l ih=>
    intro hl
    obtain ⟨fs,k1,k2,k3⟩:=ih fun v hv=>hl v (List.mem_cons_of_mem _ hv)
    obtain ⟨t,o,xs,n,rfl,ho,hc,hd,p,hx⟩:=hl v List.mem_cons_self
    have g:xs[0]? = some xs[0]:=Array.getElem?_eq_getElem p
    refine ⟨xs[0] :: fs,KatTups.cons ho hc hd g k1,by rw [List.length_cons,List.length_cons,k2],fun f hf=>?_⟩
    rcases List.mem_cons.mp hf with rfl | hf
    ·exact hx 0 _ (by rw [Array.getElem?_toList]; exact g)
    ·exact k3 f hf
  obtain ⟨fs,k1,k2,k3⟩:=tups vs fun v hv=>(h1 v hv).1
  cases ek:kd 0 with
  | true=>
   refine kat_kind (T:=.type "str") k1 (by (first|lia|omega)) (fun v hv=>?_) rfl hq
   have q:=k3 v hv
   unfold KindU at q
   rw [ek] at q
   simp only [if_true] at q
   obtain ⟨x,t,rfl⟩:=q
   exact Looks.now
  | false=>
   refine kat_kind (T:=.type "int") k1 (by (first|lia|omega)) (fun v hv=>?_) rfl hq
   have q:=k3 v hv
   unfold KindU at q
   rw [ek] at q
   simp only [Bool.false_eq_true,if_false] at q
   obtain ⟨x,t,rfl⟩:=q
   exact Looks.now
 ·intro x y hx hy Q E hq
  obtain ⟨ex,mx⟩:=pairs_two (vs:=vs) (p:=x) (by simpa using hx)
  obtain ⟨ey,my⟩:=pairs_two (vs:=vs) (p:=y) (by simpa using hy)
  rw [ex,ey] at hq ⊢
  dsimp only at hq ⊢
  refine tup_lt (h1 _ mx).1 (h1 _ my).1 ?_
  show Q (lexLt (keyIn h' x.2) (keyIn h' y.2)) _
  rw [(h1 _ mx).2,(h1 _ my).2]
  exact hq
end
theorem vals_perm {us us':List Value} (p:us'.Perm us):∀ {vs:List V},Vals vs us->∃ vs',Vals vs' us'/\vs'.Perm vs:=by
 induction p with
 | nil=>intro vs h; exact ⟨vs,h,.refl _⟩
 | cons x p ih=>
  intro vs h
  cases h with
  | cons h1 h2=>
   obtain ⟨vs',a,b⟩:=ih h2
   exact ⟨_ :: vs',.cons h1 a,b.cons _⟩
 | swap x y l=>
  intro vs h
  cases h with
  | cons h1 h2=>
   cases h2 with
   | cons h3 h4=>exact ⟨_ :: _ :: _,.cons h3 (.cons h1 h4),.swap _ _ _⟩
 | trans p1 p2 ih1 ih2=>
  intro vs h
  obtain ⟨vs1,a1,b1⟩:=ih2 h
  obtain ⟨vs2,a2,b2⟩:=ih1 a1
  exact ⟨vs2,a2,b2.trans b1⟩
theorem call_sorted_tups {X:Cx}:CallR X (.builtin "sorted") (fun xs H Q=>∃ (a:Addr) (vs:List V) (kd:Nat->Bool),xs=[.ref a]/\SqL X.K H a vs/\(∀ v ∈ vs,TupK H kd v) /\
  ∀ (l:Addr) (vs':List V),H l=none->vs'.Perm vs->vs'.Pairwise (fun u v=>lexLt (keyV H v) (keyV H u)=false)->Q (.ref l) (upd H l (.lst vs'))):=by
 intro pins s σ H xs us Q I r h
 obtain ⟨a,vs,kd,rfl,ha,hk,q⟩:=h
 obtain ⟨u,rfl,ru⟩:=vals1 r
 cases ru
 obtain ⟨its,rv,pl,hz⟩:=I.list ha
 have all:∀ {vs:List V} {its:List Value},Vals vs its->(∀ v ∈ vs,TupK H kd v)->(∀ u ∈ its,TupU s.heap kd u)/\its.map (keyIn s.heap)=vs.map (keyV H):=by
  intro vs
  induction vs with
  | nil=>intro its rv _; cases rv; exact ⟨(fun u hu=>nomatch hu),rfl⟩
  | cons v vs ih=>
   intro its rv hk
   cases rv with
   | cons r1 r2=>
    obtain ⟨a1,a2⟩:=tup_uv I r1 (hk v List.mem_cons_self)
    obtain ⟨b1,b2⟩:=ih r2 fun v hv=>hk v (List.mem_cons_of_mem _ hv)
    refine ⟨fun u hu=>?_,by rw [List.map_cons,List.map_cons,a2,b2]⟩
    rcases List.mem_cons.mp hu with rfl | hu
    ·exact a1
    ·exact b1 u hu
 refine sortedG (lex_swo (keyIn s.heap)) pl.isList (by rw [<-rv.length]; exact hz) (tups_cmpd (all rv hk).1) fun out o1 o2=>?_
 obtain ⟨vs',rv',pv⟩:=vals_perm o1 rv
 have keys:=(all rv' fun v hv=>hk v (pv.mem_iff.mp hv)).2
 obtain ⟨e,he⟩:=sortedAll_at s.heap its out.toArray
 refine ⟨.ref (s.heap.objs.size + 1),_,I.laid (o:=.lst vs') (t':=s.toks) (fun b o z=>sortedAll_old z) (Nat.le_succ _) ⟨by rw [pv.length_eq]; exact hz,out,e,rv',he⟩,rfl,q _ vs' (I.hok.fresh (Nat.le_succ _)) pv ?_⟩
 have p1:(out.map (keyIn s.heap)).Pairwise (fun a b=>lexLt b a=false):=List.pairwise_map.mpr o2
 rw [keys] at p1
 exact List.pairwise_map.mp p1
end L2
namespace L2
open PySem PySem.Spec PyProof.Rows
section
variable {prog:Program} {w:World} {A:Around} {E:Value->Shared->Prop} {s:Shared}
end
end L2
namespace L2
open PySem PySem.Spec PyProof.Rows
def norm (u:Way):Way:=(minS u.1 u.2.1,maxS u.1 u.2.1,u.2.2)
theorem dats_perm {H:Hp} {vs vs':List V} (p:vs'.Perm vs):∀ {ws:List Way},Dats H vs (ws.map wayD)->∃ ws':List Way,Dats H vs' (ws'.map wayD)/\ws'.Perm ws:=by
 induction p with
 | nil=>intro ws h; exact ⟨ws,h,.refl _⟩
 | cons x p ih=>
  intro ws h
  cases ws with
  | nil=>cases h
  | cons u ws=>
   cases h with
   | cons h1 h2=>
    obtain ⟨ws',a,b⟩:=ih h2
    exact ⟨u :: ws',.cons h1 a,b.cons u⟩
 | swap x y l=>
  intro ws h
  cases ws with
  | nil=>cases h
  | cons u ws=>
   cases h with
   | cons h1 h2=>
    cases ws with
    | nil=>cases h2
    | cons v ws=>
     cases h2 with
     | cons h3 h4=>exact ⟨v :: u :: ws,.cons h3 (.cons h1 h4),.swap u v ws⟩
 | trans p1 p2 ih1 ih2=>
  intro ws h
  obtain ⟨ws1,a1,b1⟩:=ih2 h
  obtain ⟨ws2,a2,b2⟩:=ih1 a1
  exact ⟨ws2,a2,b2.trans b1⟩
end L2
namespace L2
open PySem PySem.Spec PyProof.Rows
end L2
namespace L2
open PySem PySem.Spec PyProof.Rows
theorem ps_comp {X:Cx} {ix:Nat} {x:Str} {px spos:Pos} {tg iter elt:Expr} {ifs:List Expr} {scope:Scope} {cl:List (Str × Addr)} {N:List Str} {pos:Pos} {wi:TI} {g:TG} {tt:TT} {te:TE} {σ0:St->St} (hN:X.N.Nodup) (hix:X.N[ix]? = some x) (hlx:Loc X.env.scope x) (hc:X.calm=true) (co:CompOk X scope cl)
  (hσ:∀ σ,σ.length=X.N.length->Carry X cl scope N σ (σ0 σ)) (hi:PI X tg iter wi)
  (hb:∀ s2 H C fp,PG (compCx X scope cl N s2 H C fp) tg g/\PTs (compCx X scope cl N s2 H C fp) ifs tt/\PE (compCx X scope cl N s2 H C fp) elt te)
  (hsw:swapsWith (.ListComp elt [⟨tg,iter,ifs,0⟩] scope pos) (some (.Name x px)) spos.line X.env=pure true:=by rfl)
  (hs:∀ x,foldedSetIterable iter X.env x=pure x:=by intro _; rfl) (hf:X.fn x=true\/X.env.scope.names.lookup x=some .local:=by first | exact .inl rfl | exact .inr rfl | assumption) :
  PS X (.Assign [.Name x px] (.ListComp elt [⟨tg,iter,ifs,0⟩] scope pos) spos) (tAsg (tComp wi g tt te σ0) (gName ix)):=by
 intro pins s σ H DD I h
 rw [exec_Assign_Name_used _ _ _ _ hsw]
 refine wpAny_bind (wpAny_standAt (wpAny_bind ?_))
 show wpAny _ X.A (do let _ <- comprehension (.ListComp elt [⟨tg,iter,ifs,0⟩] scope pos) scope X.env _ (newList []) false (eval iter X.env) (some (assign (.Name x px) X.env))) _ _ s
 refine wpAny_bind (wpAny_mono (wpAny_comprehension_free (use:=some (assign (.Name x px) X.env)) (Q:=fun _ s'=>SP X pins DD .next s') rfl hs co.clos co.kind co.names
  (wpAny_mono (hi pins s σ H _ I h) (fun xv s1 h1=>wpAny_mono h1 (fun itv s2 h2=>?_) fun _ _ e=>e) fun _ _ e=>e)) (fun _ s' hq=>wpAny_pure (wpAny_pure hq)) fun _ _ e=>e)
 obtain ⟨it,fp,tn,J,H2,rfl,I2,T,st2,f2,hW⟩:=h2
 refine wpAny_newObj_type (wpAny_newFunctionEnv co.cell (by intro y hy; cases hy) (fun h₁ hns₁ hsb₁=>?_) co.kind)
 dsimp only at hns₁ hsb₁ ⊢
 generalize hH2:s2.heap.push { cls:=.type "list",dict:=none,data:=.seq ([]:List Value).toArray } = HH at hns₁ hsb₁ ⊢
 have hCsz:HH.objs.size=s2.heap.objs.size + 1:=by rw [<-hH2,Heap.size_push]
 have old:∀ b o,s2.heap.get? b=some o->h₁.get? b=some o:=fun b o e=>
  hsb₁.extBut b o (Nat.ne_of_lt (by rw [hCsz]; exact Nat.lt_succ_of_lt (Heap.lt_size e))) (Heap.get?_push_of_some _ (hH2 ▸ Heap.get?_push_of_some _ e))
 have newD:∃ n,h₁.get? s2.heap.objs.size=some { cls:=.type "list",data:=.seq ([]:List Value).toArray n }:=
  ⟨_,hsb₁.extBut _ _ (Nat.ne_of_lt (by rw [hCsz]; exact Nat.lt_succ_self _)) (Heap.get?_push_of_some _ (hH2 ▸ Heap.get?_push_size _ rfl))⟩
 obtain ⟨W,⟨m0,w0⟩,turn⟩:=hW s2.heap.objs.size I2.fresh
 have hfo:∀ b ∈ fp,∃ o,s2.heap.get? b=some o:=fun b hb=>let ⟨o,e,_⟩:=T.obj _ _ st2 b hb; ⟨o,e⟩
 have I3:Inv (compCx X scope cl N s2 H2 HH.objs.size fp) [] (σ0 σ) (upd H2 s2.heap.objs.size (.lst [])) { s2 with heap:=h₁,toks:=s2.toks + ([]:List (Str × Value)).length }:=
  comp_start I2 f2 hfo co (hσ σ I.len) old (Nat.le_refl _) (by rw [hCsz]; exact Nat.le_succ _) (Nat.ne_of_gt (by rw [hCsz]; exact Nat.lt_succ_self _)) (.inr newD) hns₁
 have fC:s2.heap.objs.size<=HH.objs.size:=by rw [hCsz]; exact Nat.le_succ _
 obtain ⟨hg,ht,he⟩:=hb s2 H2 HH.objs.size fp
 have loop:∀ s₃:Shared,s₃ = { s2 with heap:=h₁,toks:=s2.toks + ([]:List (Str × Value)).length } ->
   codeAny (model X.prog X.w) X.A (.compLoop (.ListComp elt [⟨tg,iter,ifs,0⟩] scope pos) 0 (.ref it) (.ref s2.heap.objs.size) (compEnvC scope cl HH.objs.size X.env))
    (compPost (model X.prog X.w) X.A X.xe (some (assign (.Name x px) X.env)) (fun _ s'=>SP X pins DD .next s') (.ref s2.heap.objs.size) HH.objs.size) s₃:=by
  rintro s₃ rfl
  have stat:∀ {H':Hp} ,(∀ b ∈ fp,H' b=none)->∀ b ∈ fp,FpOk (compCx X scope cl N s2 H2 HH.objs.size fp) [] H' b:=fun hn b hb=>by
   refine ⟨hn b hb,?_,?_,.inl hb,?_,fun p hp=>by cases hp⟩
   ·obtain ⟨o,e⟩:=hfo b hb
    exact Nat.ne_of_lt (show b < HH.objs.size by rw [hCsz]; exact Nat.lt_succ_of_lt (Heap.lt_size e))
   ·intro hz
    obtain ⟨_,q1,q2,_⟩:=f2 b hb
    rcases List.mem_cons.mp (I2.stkSub b hz) with e | e
    ·exact q1 e
    ·exact q2 e
   ·exact fun x c e=>(f2 b hb).2.2.2.2.1 x c (co.sub x c e)
  refine codeAny_compLoop_any (fun n s'=>∃ i σ' H',Inv (compCx X scope cl N s2 H2 HH.objs.size fp) [] σ' H' s'/\tn i s'.heap/\(∀ b ∈ fp,H' b=none)/\W i n σ' H') ?_ m0
   ⟨0,σ0 σ,_,I3,T.keep _ _ _ st2 fun b hb o e=>old b o e,fun b hb=>?_,w0⟩
  ·rintro n s4 ⟨i,σ4,H4,I4,st4,fr4,w4⟩
   rcases turn i n σ4 H4 w4 with ⟨stop,qn⟩ | ⟨go,step⟩
   ·refine wpAny_mono (T.done (compCx X scope cl N s2 H2 HH.objs.size fp) rfl rfl rfl hc i [] s4 σ4 H4 (fun _ _=>False) I4 (stat fr4) st4 stop) (fun r s5 ⟨hr,I5⟩=>?_) fun _ _ z=>z.elim
    subst hr
    obtain ⟨m5,hn5,_⟩:=id I5.loc
    have I6:Inv X pins σ H4 s5:=comp_end (h':=s5.heap) I2 f2 fC I5 (Heap.SameBut.refl _ _)
    have cC:∀ y c,X.env.cells.lookup y=some c->c ≠ HH.objs.size:=fun y c e=>by
     obtain ⟨v,q⟩:=I2.cell y c e
     exact Nat.ne_of_lt (Nat.lt_of_lt_of_le q.lt fC)
    have lC:X.env.locals ≠ HH.objs.size:=Nat.ne_of_lt (Nat.lt_of_lt_of_le I2.lt fC)
    show wpAny _ X.A (assign (.Name x px) X.env (.ref s2.heap.objs.size)) _ X.xe s5
    refine wpAny_assign_Name (store_ok2 I6 hN hix hlx (v:=.ref s2.heap.objs.size) rfl (fun s7 I7 ⟨a,sb,ha⟩=>?_) hf)
    have aC:a ≠ HH.objs.size:=by
     rcases ha with rfl | ha
     ·exact lC
     ·exact cC _ _ ha
    refine ⟨m5,hn5.sameBut sb (Ne.symm aC),fun h' hs'=>⟨_,H4,?_,qn⟩⟩
    exact I7.turned (t':=s7.toks) (it:=HH.objs.size) (fun b o hb e=>(hs'.2 b hb).trans e) I5.free (Ne.symm lC) (.inr (Nat.le_trans I2.sz fC)) cC fun p hp z=>by
     have e:=(I2.pin p hp).1
     exact absurd (Nat.lt_of_lt_of_le (Heap.lt_size e) fC) (by rw [z]; exact Nat.lt_irrefl _)
   ·refine wpAny_mono (T.item (compCx X scope cl N s2 H2 HH.objs.size fp) rfl rfl rfl hc i [] s4 σ4 H4 (fun _ _=>False) I4 (stat fr4) st4 go) (fun r s5 ⟨u,hr,h5⟩=>?_) fun _ _ z=>z.elim
    subst hr
    refine wpAny_mono h5 (fun _ s6 ⟨x,H6,I6,r6,y6,st6,fr6⟩=>?_) fun _ _ z=>z.elim
    have I6':=I6.pinned (stat fr6) (T.obj _ _ st6)
    refine wpAny_mono (hg _ s6 σ4 H6 x u _ I6' r6 (step x H6 y6)) (fun _ s7 ⟨σ7,H7,I7,q7⟩=>?_) fun _ _ z=>z.elim
    refine wpAny_mono (ht _ s7 σ7 H7 _ I7 q7) (fun ok s8 ⟨H8,I8,q8⟩=>?_) fun _ _ z=>z.elim
    have again:∀ {s9:Shared} {σ9:St} {H9:Hp} ,Inv (compCx X scope cl N s2 H2 HH.objs.size fp) ([] ++ pinsAt fp s6.heap) σ9 H9 s9->(∃ m',m' < n/\W (i + 1) m' σ9 H9)->∃ m,m < n/\∃ i σ' H',Inv (compCx X scope cl N s2 H2 HH.objs.size fp) [] σ' H' s9/\tn i s9.heap/\(∀ b ∈ fp,H' b=none)/\W i m σ' H':=fun {s9 σ9 H9} I9 n9=>by
     obtain ⟨m',hm,w9⟩:=n9
     refine ⟨m',hm,i + 1,σ9,H9,I9.unpinned,T.keep _ _ _ st6 fun b hb o e=>(I9.pin (b,o) (List.mem_append_right _ (List.mem_append_right _ (mem_pinsAt hb e)))).1,fun b hb=>?_,w9⟩
     obtain ⟨o,e,d⟩:=T.obj _ _ st6 b hb
     exact (I9.pin (b,o) (List.mem_append_right _ (List.mem_append_right _ (mem_pinsAt hb e)))).2.1
    cases ok with
    | false=>
     rw [if_neg Bool.false_ne_true] at q8 ⊢
     exact again I8 q8
    | true=>
     rw [if_pos rfl] at q8 ⊢
     refine wpAny_mono (he _ s8 σ7 H8 _ I8 q8) (fun y s9 ⟨v,H9,I9,r9,acc,hacc,hsz,q9⟩=>?_) fun _ _ z=>z.elim
     refine wpAny_mono (mt_append (X:=compCx X scope cl N s2 H2 HH.objs.size fp) _ s9 σ7 H9 (.ref s2.heap.objs.size) [v] (.ref s2.heap.objs.size) [y] (fun _ H10=>∃ m',m' < n/\W (i + 1) m' σ7 H10) I9 rfl (.cons r9 .nil) ⟨_,acc,v,rfl,rfl,hacc,hsz,q9⟩) (fun _ s10 ⟨_,H10,I10,_,q10⟩=>?_) fun _ _ z=>z.elim
     exact again I10 q10
  ·have z:=(f2 b hb).1
   obtain ⟨o,e⟩:=hfo b hb
   rw [upd_ne (Nat.ne_of_lt (Heap.lt_size e))]
   exact z
 exact codeAny_compStart_list (loop _ rfl) (T.self _ 0 _ _ _ (T.keep _ _ _ st2 fun b hb o e=>old b o e) (loop _ rfl))
end L2
namespace L2
open PySem PySem.Spec PyProof.Rows
section
variable {prog:Program} {w:World} {A:Around} {E:Value->Shared->Prop} {s:Shared}
end
theorem lt_irr (a:List Nat):¬ a < a:=List.lt_irrefl a
end L2
namespace L2
open PySem PySem.Spec PyProof.Rows
section
variable {X:Cx} {pins:List (Addr × Obj)} {σ σ':St} {H H':Hp} {s2 s':Shared} {scope:Scope} {cl:List (Str × Addr)} {N:List Str} {fp:List Addr} {C D:Addr} {h₁ h':Heap} {t':Nat}
end
section
variable {prog:Program} {w:World} {A:Around} {R:Result->Shared->Prop} {s:Shared}
end
end L2
namespace L2
open PySem PySem.Spec PyProof.Rows
theorem risingS_cons (p x:Str) (r:List Str):risingS p (x :: r)=(!ltCps x.cps.toList p.cps.toList && risingS x r):=rfl
theorem rising_pw:∀ (p:Str) (l:List Str),risingS p l=true->(p :: l).Pairwise fun a b=>¬ b.cps.toList < a.cps.toList
 | p,[],_=>List.pairwise_singleton _ _
 | p,x :: r,h=>by
  rw [risingS_cons,Bool.and_eq_true,ltCps_eq] at h
  have h1:¬ x.cps.toList < p.cps.toList:=by simpa using h.1
  have h2:=rising_pw x r h.2
  refine List.pairwise_cons.mpr ⟨fun y hy=>?_,h2⟩
  rcases List.mem_cons.mp hy with rfl | hy
  ·exact h1
  ·have h3:=(List.pairwise_cons.mp h2).1 y hy
   have a:p.cps.toList<=x.cps.toList:=List.not_lt.mp h1
   have b:x.cps.toList<=y.cps.toList:=List.not_lt.mp h3
   exact List.not_lt.mpr (List.le_trans a b)
theorem sorted_pw {l:List Str} (h:sortedS l=true):l.Pairwise fun a b=>¬ b.cps.toList < a.cps.toList:=by
 cases l with
 | nil=>exact .nil
 | cons p l=>exact rising_pw p l h
theorem str_anti {a b:Str} (h1:¬ b.cps.toList < a.cps.toList) (h2:¬ a.cps.toList < b.cps.toList):a=b:=by
 have e:a.cps.toList=b.cps.toList:=List.le_antisymm (List.not_lt.mp h1) (List.not_lt.mp h2)
 cases a; cases b
 simp only [Str.mk.injEq]
 exact Array.toList_inj.mp e
theorem sorted_eq {l m:List Str} (hl:l.Pairwise fun a b=>¬ b.cps.toList < a.cps.toList) (hm:m.Pairwise fun a b=>¬ b.cps.toList < a.cps.toList) (p:l.Perm m):l=m:=
 List.Perm.eq_of_pairwise (fun a b _ _ h1 h2=>str_anti h1 h2) hl hm p
theorem perm_of_mem {l m:List Str} (hl:l.Nodup) (hm:m.Nodup) (h:∀ x,x ∈ l ↔ x ∈ m):l.Perm m:=(List.perm_ext_iff_of_nodup hl hm).mpr h
def Adj (ws:List Way) (x y:Str):Prop:=∃ u ∈ ws,(u.1=x/\u.2.1=y)\/(u.1=y/\u.2.1=x)
theorem norm_ends (u:Way):(norm u).1=u.1/\(norm u).2.1=u.2.1\/(norm u).1=u.2.1/\(norm u).2.1=u.1:=by
 unfold norm minS maxS
 by_cases h:u.2.1.cps.toList < u.1.cps.toList
 ·have h':¬ u.1.cps.toList < u.2.1.cps.toList:=List.lt_asymm h
  rw [if_pos h,if_neg h']
  exact .inr ⟨rfl,rfl⟩
 ·rw [if_neg h]
  by_cases h':u.1.cps.toList < u.2.1.cps.toList
  ·rw [if_pos h']; exact .inl ⟨rfl,rfl⟩
  ·rw [if_neg h']
   have e:u.1=u.2.1:=str_anti h h'
   exact .inl ⟨rfl,e⟩
theorem adj_norm {ws ws':List Way} (p:ws'.Perm (ws.map norm)) (x y:Str):Adj ws' x y ↔ Adj ws x y:=by
 constructor
 ·rintro ⟨u,hu,h⟩
  obtain ⟨v,hv,rfl⟩:=List.mem_map.mp (p.mem_iff.mp hu)
  refine ⟨v,hv,?_⟩
  rcases norm_ends v with ⟨e1,e2⟩ | ⟨e1,e2⟩
  ·rw [e1,e2] at h; exact h
  ·rw [e1,e2] at h
   rcases h with ⟨a,b⟩ | ⟨a,b⟩
   ·exact .inr ⟨b,a⟩
   ·exact .inl ⟨b,a⟩
 ·rintro ⟨v,hv,h⟩
  refine ⟨norm v,p.mem_iff.mpr (List.mem_map.mpr ⟨v,hv,rfl⟩),?_⟩
  rcases norm_ends v with ⟨e1,e2⟩ | ⟨e1,e2⟩
  ·rw [e1,e2]; exact h
  ·rw [e1,e2]
   rcases h with ⟨a,b⟩ | ⟨a,b⟩
   ·exact .inr ⟨b,a⟩
   ·exact .inl ⟨b,a⟩
theorem ends_norm {xs:List Str} {ws ws':List Way} (p:ws'.Perm (ws.map norm)) (h:∀ u ∈ ws,u.1 ∈ xs/\u.2.1 ∈ xs):∀ u ∈ ws',u.1 ∈ xs/\u.2.1 ∈ xs:=fun u hu=>by
 obtain ⟨v,hv,rfl⟩:=List.mem_map.mp (p.mem_iff.mp hu)
 obtain ⟨a,b⟩:=h v hv
 rcases norm_ends v with ⟨e1,e2⟩ | ⟨e1,e2⟩ <;> rw [e1,e2]
 ·exact ⟨a,b⟩
 ·exact ⟨b,a⟩
def Joined (xs:List Str) (ws:List Way):Prop:=∀ j,0 < j->j < xs.length->∃ u ∈ ws,∃ i:Nat,i < j/\xs[i]? = some u.1/\xs[j]? = some u.2.1
theorem Joined.all {xs:List Str} {ws:List Way} (h:Joined xs ws) (S:Str->Prop) (cl:∀ x y,Adj ws x y->S x->S y) {r:Str} (hr:r ∈ xs) (sr:S r):∀ x ∈ xs,S x:=by
 have down:∀ n (i:Nat),i<=n->∀ x,xs[i]? = some x->S x->∀ x0,xs[0]? = some x0->S x0:=by
  intro n
  induction n with
  | zero=>
   intro i hi x e s x0 e0
   have:i=0:=by (first|lia|omega)
   subst this
   rw [e] at e0; cases e0; exact s
  | succ n ih=>
   intro i hi x e s x0 e0
   by_cases hz:i=0
   ·subst hz
    rw [e] at e0; cases e0; exact s
   ·obtain ⟨u,hu,k,hk,e1,e2⟩:=h i (by (first|lia|omega)) (List.getElem?_eq_some_iff.mp e).1
    rw [e] at e2; cases e2
    exact ih k (by (first|lia|omega)) u.1 e1 (cl _ _ ⟨u,hu,.inr ⟨rfl,rfl⟩⟩ s) x0 e0
 have up:∀ x0,xs[0]? = some x0->S x0->∀ n (i:Nat),i<=n->∀ x,xs[i]? = some x->S x:=by
  intro x0 e0 s0 n
  induction n with
  | zero=>
   intro i hi x e
   have:i=0:=by (first|lia|omega)
   subst this
   rw [e0] at e; cases e; exact s0
  | succ n ih=>
   intro i hi x e
   by_cases hz:i=0
   ·subst hz
    rw [e0] at e; cases e; exact s0
   ·obtain ⟨u,hu,k,hk,e1,e2⟩:=h i (by (first|lia|omega)) (List.getElem?_eq_some_iff.mp e).1
    rw [e] at e2; cases e2
    exact cl _ _ ⟨u,hu,.inl ⟨rfl,rfl⟩⟩ (ih k (by (first|lia|omega)) u.1 e1)
 intro x hx
 obtain ⟨i,hi,e⟩:=List.getElem_of_mem hr
 obtain ⟨j,hj,e'⟩:=List.getElem_of_mem hx
 have h0:xs[0]? = some xs[0]:=List.getElem?_eq_getElem (by (first|lia|omega))
 have s0:S xs[0]:=down i i (Nat.le_refl _) r (by rw [List.getElem?_eq_getElem hi,e]) sr _ h0
 exact up _ h0 s0 j j (Nat.le_refl _) x (by rw [List.getElem?_eq_getElem hj,e'])
section
variable {ws:List Way} {r:Str} {bs cs:List (Str × Option Str)}
end
section
variable {ws:List Way} {r:Str} {wk:List (Str × List Str)}
end
theorem way_dats {H2 H3:Hp} {vs:List V} {ws:List Way} (h:Dats H2 vs (ws.map wayD)) (ht:∀ b xs,H2 b=some (.tup xs)->H3 b=some (.tup xs)):Dats H3 vs (ws.map wayD):=by
 induction ws generalizing vs with
 | nil=>cases h; exact .nil
 | cons u ws ih=>
  cases h with
  | cons h1 r=>
   refine .cons ?_ (ih r)
   cases h1 with
   | tup ha hd=>
    refine .tup (ht _ _ ha) ?_
    cases hd with
    | cons h1 r1=>
     cases r1 with
     | cons h2 r2=>
      cases r2 with
      | cons h3 r3=>
       cases r3
       cases h1
       cases h2
       cases h3
       exact .cons (.str _) (.cons (.str _) (.cons (.int _) .nil))
end L2
namespace L2
open PySem PySem.Spec PyProof.Rows
def sK (nv:List (Str × V)):List (Key × V):=nv.map fun q=>(Sum.inr q.1,q.2)
theorem sK_len (nv:List (Str × V)):(sK nv).length=nv.length:=List.length_map ..
theorem sK_keys (nv:List (Str × V)):(sK nv).map (·.1)=(nv.map (·.1)).map Sum.inr:=by unfold sK; rw [List.map_map,List.map_map]; rfl
theorem sK_app (a b:List (Str × V)):sK (a ++ b)=sK a ++ sK b:=List.map_append ..
theorem sK_none:∀ {nv:List (Str × V)} {y:Str},y ∉ nv.map (·.1)->valV (sK nv) (Sum.inr y:Key)=none
 | [],y,_=>rfl
 | q :: nv,y,h=>by
  rw [List.map_cons,List.mem_cons,not_or] at h
  show valV ((Sum.inr q.1,q.2) :: sK nv) (Sum.inr y:Key)=none
  rw [valV_neg (fun z=>h.1 (Sum.inr.inj z).symm)]
  exact sK_none h.2
theorem sK_is {nv:List (Str × V)} {y:Str}:(valV (sK nv) (Sum.inr y:Key)).isSome=decide (y ∈ nv.map (·.1)):=by
 by_cases h:y ∈ nv.map (·.1)
 ·rw [decide_eq_true h]
  cases e:valV (sK nv) (Sum.inr y:Key) with
  | some v=>rfl
  | none=>
   have:=valV_not e
   rw [sK_keys] at this
   exact absurd (List.mem_map.mpr ⟨y,h,rfl⟩) this
 ·rw [decide_eq_false h,sK_none h]; rfl
theorem sK_new {nv:List (Str × V)} {y:Str} {v:V} (h:y ∉ nv.map (·.1)):putK (sK nv) (Sum.inr y:Key) v=sK (nv ++ [(y,v)]):=by
 rw [putK_new v (sK_none h),sK_app]; rfl
structure Web (H:Hp) (q:Addr) (ps:List Str) (ws:List Way):Prop where
 ex:∃ tp tw us,H q=some (.tup [.ref tp,.ref tw])/\H tp=some (.tup (ps.map V.str))/\H tw=some (.tup us)/\Dats H us (ws.map wayD)
structure WebOk (H:Hp) (q:Addr) (ps:List Str) (ws:List Way) (r:Str):Prop where
 web:Web H q ps ws
 nd:ps.Nodup
 l30:ps.length<=30
 l64:ws.length < 64
 ends:∀ u ∈ ws,u.1 ∈ ps/\u.2.1 ∈ ps
 first:ps[0]? = some r
 con:∀ S:Str->Prop,S r->(∀ x y,Adj ws x y->S x->S y)->∀ x ∈ ps,S x
end L2
namespace L2
open PySem PySem.Spec PyProof.Rows
end L2
namespace L2
open PySem PySem.Spec PyProof.Rows
end L2
namespace L2
open PySem PySem.Spec PyProof.Rows
end L2
namespace L2
open PySem PySem.Spec PyProof.Rows
section
variable {ws:List Way} {r:Str} {bs:List (Str × Option Str)} {wk:List (Str × List Str)} {ps:List Str}
end
end L2
namespace L2
open PySem PySem.Spec PyProof.Rows
section
open PySem.SeqAt
open PySem.AutoSeq1 (wpAny_loadPart')
open PySem.MeetsSeq PySem.MeetsSeq2 PySem.MeetsSeq3
end
end L2
namespace L2
open PySem PySem.Spec PyProof.Rows
section
variable {prog:Program} {w:World} {A:Around} {R:Result->Shared->Prop} {I:Addr} {fp wr:List Addr} {n:Nat} {P:Nat->Value->Prop} {St:Nat->Heap->Prop} {g0:Heap}
end
section
variable {prog:Program} {w:World} {A:Around} {E:Value->Shared->Prop} {s:Shared}
end
end L2
namespace L2
open PySem PySem.Spec PyProof.Rows
section
variable {prog:Program} {w:World} {A:Around} {E:Value->Shared->Prop} {s:Shared}
end
end L2
namespace L2
open PySem PySem.Spec PyProof.Rows
def Edge (ws:List Way) (x y:Str) (l:Int):Prop:=∃ u ∈ ws,((u.1=x/\u.2.1=y)\/(u.1=y/\u.2.1=x))/\u.2.2=l
end L2
namespace L2
open PySem PySem.Spec PyProof.Rows
end L2
namespace L2
open PySem PySem.Spec PyProof.Rows
section
variable {H H2 H3:Hp} {ps:List Str} {ws:List Way} {B RA SA:Addr} {ds:List Addr} {nvR nvS:List (Str × V)} {S R:Str->Int × Str->Prop}
end
end L2
namespace L2
open PySem PySem.Spec PyProof.Rows
end L2
namespace L2
open PySem PySem.Spec PyProof.Rows
theorem entry_upd_loop:entryFor table "dict.update.loop"=some Builtin.«dict.update.loop»:=entryFor_of_tree (by kernel_rfl)
theorem plain_upd_loop:plainId "dict.update.loop"=true:=by decide +kernel
def RowAt (g0:Heap) (v:Value) (p:Str × V):Prop:=∃ a t u,v=.ref a/\IsTup g0 a #[.str p.1 t,u]/\RelV p.2 u
section
variable {prog:Program} {w:World} {A:Around} {R:Result->Shared->Prop} {g0:Heap} {D it l:Addr} {vs:List Value} {ps:List (Str × V)}
end
end L2
namespace L2
open PySem PySem.Spec PyProof.Rows
section
variable {prog:Program} {w:World} {A:Around} {E:Value->Shared->Prop} {s:Shared}
end
theorem merge_sK:∀ (b a:List (Str × V)),((a ++ b).map (·.1)).Nodup->mergeK (sK a) (sK b)=sK (a ++ b)
 | [],a,_=>by rw [List.append_nil]; rfl
 | q :: b,a,hn=>by
  have nq:q.1 ∉ a.map (·.1):=by
   rw [List.map_append,List.map_cons] at hn
   intro hm
   exact (List.nodup_append.mp hn).2.2 q.1 hm q.1 List.mem_cons_self rfl
  show mergeK (putK (sK a) (Sum.inr q.1) q.2) (sK b)=_
  rw [sK_new nq]
  have:=merge_sK b (a ++ [(q.1,q.2)]) (by rw [List.append_assoc]; exact hn)
  rw [this,List.append_assoc]
  rfl
end L2
namespace L2
open PySem PySem.Spec PyProof.Rows
theorem sep_eq:∀ {ws:List Way},(ws.Pairwise fun u v=>¬ Alike u v)->∀ {u v:Way},u ∈ ws->v ∈ ws->Alike u v->u=v
 | [],_,u,v,hu,_,_=>nomatch hu
 | a :: ws,h,u,v,hu,hv,al=>by
  obtain ⟨h1,h2⟩:=List.pairwise_cons.mp h
  rcases List.mem_cons.mp hu with e1 | hu1
  ·rcases List.mem_cons.mp hv with e2 | hv1
   ·rw [e1,e2]
   ·exact absurd (by rw [<-e1]; exact al) (h1 v hv1)
  ·rcases List.mem_cons.mp hv with e2 | hv1
   ·refine absurd ?_ (h1 u hu1)
    rw [<-e2]
    rcases al with ⟨a1,a2⟩ | ⟨a1,a2⟩
    ·exact .inl ⟨a1.symm,a2.symm⟩
    ·exact .inr ⟨a2.symm,a1.symm⟩
   ·exact sep_eq h2 hu1 hv1 al
theorem edge_uniq {ws:List Way} (h:ws.Pairwise fun u v=>¬ Alike u v) {x y:Str} {l l':Int} (e:Edge ws x y l) (e':Edge ws x y l'):l=l':=by
 obtain ⟨u,hu,a,rfl⟩:=e
 obtain ⟨v,hv,b,rfl⟩:=e'
 have:u=v:=sep_eq h hu hv (by
  rcases a with ⟨a1,a2⟩ | ⟨a1,a2⟩ <;> rcases b with ⟨b1,b2⟩ | ⟨b1,b2⟩
  ·exact .inl ⟨a1.trans b1.symm,a2.trans b2.symm⟩
  ·exact .inr ⟨a1.trans b2.symm,a2.trans b1.symm⟩
  ·exact .inr ⟨a1.trans b2.symm,a2.trans b1.symm⟩
  ·exact .inl ⟨a1.trans b1.symm,a2.trans b2.symm⟩)
 rw [this]
theorem edge_norm {ws ws':List Way} (p:ws'.Perm (ws.map norm)) (x y:Str) (l:Int):Edge ws' x y l ↔ Edge ws x y l:=by
 constructor
 ·rintro ⟨u,hu,h,e⟩
  obtain ⟨v,hv,rfl⟩:=List.mem_map.mp (p.mem_iff.mp hu)
  refine ⟨v,hv,?_,e⟩
  rcases norm_ends v with ⟨e1,e2⟩ | ⟨e1,e2⟩
  ·rw [e1,e2] at h; exact h
  ·rw [e1,e2] at h
   rcases h with ⟨a,b⟩ | ⟨a,b⟩
   ·exact .inr ⟨b,a⟩
   ·exact .inl ⟨b,a⟩
 ·rintro ⟨v,hv,h,e⟩
  refine ⟨norm v,p.mem_iff.mpr (List.mem_map.mpr ⟨v,hv,rfl⟩),?_,e⟩
  rcases norm_ends v with ⟨e1,e2⟩ | ⟨e1,e2⟩
  ·rw [e1,e2]; exact h
  ·rw [e1,e2]
   rcases h with ⟨a,b⟩ | ⟨a,b⟩
   ·exact .inr ⟨b,a⟩
   ·exact .inl ⟨b,a⟩
end L2
namespace L2
open PySem PySem.Spec PySem.W PyProof.Rows
def wk (u:Way):List Atm:=[.s u.1,.s u.2.1,.i u.2.2]
theorem way_tupK {H:Hp} {v:V} {u:Way} (h:Dat H v (wayD u)):TupK H (fun i=>decide (i < 2)) v/\keyV H v=wk u:=by
 obtain ⟨w,t,e1,rfl,ht⟩:=dats_way (i:=0) (ws:=[u]) (Dats.cons h .nil) rfl
 cases e1
 refine ⟨⟨t,_,rfl,ht,by simp,fun i y e=>?_⟩,?_⟩
 ·unfold KindV
  match i,e with
  | 0,e=>cases e; simp
  | 1,e=>cases e; simp
  | 2,e=>cases e; simp
  | n + 3,e=>simp at e
 ·show (match H t with | some (.tup ys)=>ys.map vAtm | _=>[])=_
  rw [ht]
  rfl
theorem ways_tupK {H:Hp}:∀ {vs:List V} {ws:List Way},Dats H vs (ws.map wayD)->(∀ v ∈ vs,TupK H (fun i=>decide (i < 2)) v)/\vs.map (keyV H)=ws.map wk
 | _,[],.nil=>⟨(fun v hv=>nomatch hv),rfl⟩
 | _,u :: ws,.cons h r=>by
  obtain ⟨a1,a2⟩:=way_tupK h
  obtain ⟨b1,b2⟩:=ways_tupK r
  refine ⟨fun v hv=>?_,by rw [List.map_cons,List.map_cons,a2,b2]⟩
  rcases List.mem_cons.mp hv with rfl | hv
  ·exact a1
  ·exact b1 v hv
end L2
namespace L2
open PySem PySem.Spec PyProof.Rows
def penL (a b c:Int):List V:=[.int a,.int b,.int c]
theorem penL_0 (a b c:Int):atI (penL a b c) 0=some (.int a):=rfl
theorem penL_1 (a b c:Int):atI (penL a b c) 1=some (.int b):=rfl
theorem penL_2 (a b c:Int):atI (penL a b c) 2=some (.int c):=rfl
def PnAt (H:Hp) (p:Addr):Prop:=∃ a b c:Int,H p=some (.lst (penL a b c))
def spPenL (K:PySem.W.Frag):Sp:=fun vs H Q _=>∃ (a:Addr) (ns:List Int) (k:Int),vs=[.ref a,.int k]/\Scr K H a (ns.map V.int)/\0<=k /\
 ∀ (p:Addr) (x y:Int),H p=none->Q (.ref p) (upd H p (.lst (penL x y 0)))
def spDraw:Sp:=fun vs H Q _=>∃ (p:Addr) (m:Int),vs=[.ref p,.int m]/\PnAt H p/\0 < m/\m < 1073741824 /\
 ∀ (d a b c:Int),0<=d->d < m->Q (.int d) (upd H p (.lst (penL a b c)))
theorem PnAt.set {H:Hp} {p:Addr} (a b c:Int):PnAt (upd H p (.lst (penL a b c))) p:=⟨a,b,c,upd_same⟩
def spGreat:Sp:=fun vs H Q _=>∃ (p:Addr) (lo sz:Int),vs=[.ref p,.int lo,.int sz]/\PnAt H p/\0<=lo/\lo<=1000/\0 < sz/\sz<=1000 /\
 ∀ (n a b c:Int),lo<=n->n < 10 ^ 30->Q (.int n) (upd H p (.lst (penL a b c)))
theorem PnAt.other {H:Hp} {p D:Addr} {o:HO} (h:PnAt H p) (ne:D ≠ p):PnAt (upd H D o) p:=by
 obtain ⟨a,b,c,e⟩:=h
 exact ⟨a,b,c,by rw [upd_ne ne.symm]; exact e⟩
theorem PnAt.ne {H:Hp} {p q:Addr} (h:PnAt H p) (e:H q=none):q ≠ p:=by
 obtain ⟨a,b,c,h⟩:=h
 intro z; subst z; rw [h] at e; cases e
def spSome (K:PySem.W.Frag):Sp:=fun vs H Q _=>∃ (p t:Addr) (ts:List Str) (m:Int),vs=[.ref p,.ref t,.int m]/\PnAt H p/\SqT K H t (ts.map V.str)/\1<=ts.length/\ts.length<=1000/\1<=m/\m<=1000 /\
 ∀ (H':Hp) (D:Addr) (xs ys:List Str),PnAt H' p->Keep p H H'->H D=none->H' D=some (.lst (xs.map V.str))->(xs ++ ys).Perm ts->1<=xs.length->(xs.length:Int)<=m->Q (.ref D) H'
theorem cons_erase_perm {α:Type}:∀ {ys:List α} {k:Nat} {y:α},ys[k]? = some y->(y :: ys.eraseIdx k).Perm ys
 | [],k,y,e=>by simp at e
 | x :: ys,0,y,e=>by
  simp at e
  subst e
  exact List.Perm.refl _
 | x :: ys,k + 1,y,e=>by
  simp at e
  exact (List.Perm.swap x y _).trans ((cons_erase_perm e).cons x)
theorem map_erase {α β:Type} (f:α->β):∀ (ys:List α) (k:Nat),(ys.map f).eraseIdx k=(ys.eraseIdx k).map f
 | [],k=>by simp
 | x :: ys,0=>rfl
 | x :: ys,k + 1=>by
  show f x :: (ys.map f).eraseIdx k=f x :: (ys.eraseIdx k).map f
  rw [map_erase f ys k]
theorem pop_perm {α:Type} {xs ys ts:List α} {k:Nat} {y:α} (h:(xs ++ ys).Perm ts) (e:ys[k]? = some y):((xs ++ [y]) ++ ys.eraseIdx k).Perm ts:=by
 refine List.Perm.trans ?_ h
 rw [List.append_assoc]
 refine List.Perm.append_left xs ?_
 exact cons_erase_perm e
end L2
namespace L2
open PySem PySem.Spec PyProof.Rows
theorem strs_are:∀ {ss:List Str} {us:List Value},Vals (ss.map V.str) us->StrsAre us ss
 | [],_,.nil=>.nil
 | _ :: _,_,.cons r q=>by
  obtain ⟨t,rfl⟩:=r
  exact .cons _ t (strs_are q)
theorem mt_join {X:Cx}:MtM X "str.join" (fun x vs H Q=>∃ (z:Str) (a:Addr) (ss:List Str),x=.str z/\vs=[.ref a]/\H a=some (.lst (ss.map V.str))/\z.length<=16/\(ss.map (·.length)).sum + ss.length<=1048576/\Q (.str (Txt.join z ss)) H):=by
 intro pins s σ H x vs v us Q I rx rv h
 obtain ⟨z,a,ss,rfl,rfl,hH,hz,hw,q⟩:=h
 obtain ⟨t,rfl⟩:=rx
 obtain ⟨u,rfl,ru⟩:=rv.one
 cases ru
 obtain ⟨_,its,n,r,_,e⟩:=I.lstM hH
 refine join_listW (ys:=ss) ⟨_,e,rfl,n,rfl⟩ (by rw [List.toList_toArray]; exact strs_are r) hz hw fun t' k=>?_
 exact ⟨.str (Txt.join z ss),H,I.tok k,⟨t',rfl⟩,q⟩
theorem join_cps (ss:List Str):(Txt.join (Str.ofString "") ss).cps.toList=(ss.map fun s=>s.cps.toList).flatten:=by
 unfold Txt.join
 rw [PySem.StrLaws.glued_eq_join]
 induction ss with
 | nil=>rfl
 | cons x r ih=>
  cases r with
  | nil=>
   show x.cps.toList=_
   simp
  | cons y r=>
   have e:Str.join (Str.ofString "") (x :: y :: r)=x ++ Str.ofString "" ++ Str.join (Str.ofString "") (y :: r):=rfl
   rw [e,List.map_cons,List.flatten_cons,<-ih]
   show ((x.cps ++ #[]) ++ (Str.join (Str.ofString "") (y :: r)).cps).toList=_
   simp
theorem read_draws {g:TG} {te:TE} {H:Hp} {p:Addr} {R:Addr->Hp->Prop} (n:Nat) (hg:∀ (x:V) (v a b:Option V) (H:Hp) (Q:St->Hp->Prop),Q [some x,a,b] H->g x [v,a,b] H Q)
  (hte:∀ (v:Option V) (H':Hp),PnAt H' p->∀ Q:VK,(∀ (c:Nat) (a b d:Int),lowc c=true->Q (.str ⟨#[c]⟩) (upd H' p (.lst (penL a b d))))->te [v,some (.str letters),some (.ref p)] H' Q)
  (hn:n<=1000) (hP:PnAt H p)
  (k:∀ (H':Hp) (D:Addr) (ss:List Str),PnAt H' p->Keep p H H'->H' D=some (.lst (ss.map V.str))->ss.length=n->(∀ s ∈ ss,s.length=1/\Low s)->R D H') :
  ∀ D,H D=none->∃ W:Nat->Nat->St->Hp->Prop,(∃ m,W 0 m [none,some (.str letters),some (.ref p)] (upd H D (.lst []))) /\
   ∀ i m σ' H',W i m σ' H'->((Itr 0 n).stop i H'/\R D H')\/((Itr 0 n).go i H'/\∀ x H2,(Itr 0 n).yld i H' x H2->g x σ' H2 fun σ2 H3=>tYes σ2 H3 fun b H4=>
    if b=true then te σ2 H4 (fun v H5=>∃ acc,H5 D=some (.lst acc)/\acc.length < sizeLine/\∃ m',m' < m/\W (i + 1) m' σ2 (upd H5 D (.lst (acc ++ [v])))) else ∃ m',m' < m/\W (i + 1) m' σ2 H4):=by
 intro D hD
 have big:1000 < sizeLine:=by decide
 have pD:D ≠ p:=hP.ne hD
 refine ⟨fun i m σ' H'=>m=n - i/\i<=n/\(∃ v,σ'=[v,some (.str letters),some (.ref p)])/\∃ ss:List Str,PnAt H' p/\Keep p H H'/\H' D=some (.lst (ss.map V.str))/\ss.length=i/\∀ s ∈ ss,s.length=1/\Low s,
  ⟨n,rfl,Nat.zero_le _,⟨_,rfl⟩,[],hP.other pD,Keep.of_same (same_upd hD),upd_same,rfl,fun s hs=>nomatch hs⟩,?_⟩
 rintro i m σ' H' ⟨rfl,hi,⟨v,rfl⟩,ss,P1,k1,d1,l1,o1⟩
 by_cases hlt:i < n
 ·refine .inr ⟨hlt,?_⟩
  rintro x H2 ⟨rfl,rfl⟩
  refine hg _ _ _ _ _ _ ?_
  unfold tYes
  dsimp only
  rw [if_pos rfl]
  refine hte _ _ P1 _ fun c a b d hc=>?_
  refine ⟨ss.map V.str,by rw [upd_ne pD]; exact d1,by rw [List.length_map]; (first|lia|omega),n - (i + 1),by (first|lia|omega),rfl,hlt,⟨_,rfl⟩,ss ++ [⟨#[c]⟩],(PnAt.set a b d).other pD,fun b' o hb e=>?_,?_,by rw [List.length_append,l1]; rfl,fun s hs=>?_⟩
  ·rw [upd_ne (by intro z; subst z; rw [hD] at e; cases e),upd_ne hb]
   exact k1 b' o hb e
  ·rw [upd_same,List.map_append]; rfl
  ·rcases List.mem_append.mp hs with h | h
   ·exact o1 s h
   ·rw [List.mem_singleton] at h
    subst h
    refine ⟨rfl,fun c' hc'=>?_⟩
    have:c'=c:=by simpa using hc'
    subst this
    exact hc
 ·have e:i=n:=by (first|lia|omega)
  subst e
  exact .inl ⟨Nat.le_refl _,k H' D ss P1 k1 d1 l1 o1⟩
theorem join_low {ss:List Str} (h:∀ s ∈ ss,s.length=1/\Low s):Low (Txt.join (Str.ofString "") ss)/\(Txt.join (Str.ofString "") ss).length=ss.length/\(ss.map (·.length)).sum=ss.length:=by
 have e:∀ l:List Str,(∀ s ∈ l,s.length=1/\Low s)->((l.map fun s=>s.cps.toList).flatten).length=l.length/\(l.map (·.length)).sum=l.length:=by
  intro l
  induction l with
  | nil=>intro _; exact ⟨rfl,rfl⟩
  | cons x r ih=>
   intro h
   obtain ⟨i1,i2⟩:=ih fun s hs=>h s (List.mem_cons_of_mem _ hs)
   have hx:x.cps.size=1:=(h x (List.mem_cons_self ..)).1
   constructor
   ·rw [List.map_cons,List.flatten_cons,List.length_append,i1,Array.length_toList,hx,List.length_cons]
    (first|lia|omega)
   ·rw [List.map_cons,List.sum_cons,i2,List.length_cons]
    show x.cps.size + r.length=r.length + 1
    (first|lia|omega)
 refine ⟨fun c hc=>?_,?_,(e ss h).2⟩
 ·rw [join_cps] at hc
  obtain ⟨l,hl,hcl⟩:=List.mem_flatten.mp hc
  obtain ⟨s,hs,rfl⟩:=List.mem_map.mp hl
  exact (h s hs).2 c hcl
 ·show (Txt.join (Str.ofString "") ss).cps.size=_
  rw [<-Array.length_toList,join_cps]
  exact (e ss h).1
end L2
namespace L2
open PySem PySem.Spec PyProof.Rows
theorem names_nodup {xs:List Str} {hd:List Nat} {f:Nat->List Nat} (h:∀ i x,xs[i]? = some x->∃ tl,x.cps.toList=hd ++ (f i ++ tl)) (hf:∀ i j,i < j->j < xs.length->∀ tl tl',f i ++ tl ≠ f j ++ tl'):xs.Nodup:=by
 refine List.pairwise_iff_getElem.mpr fun i j hi hj hij e=>?_
 obtain ⟨tl,h1⟩:=h i _ (List.getElem?_eq_getElem hi)
 obtain ⟨tl',h2⟩:=h j _ (List.getElem?_eq_getElem hj)
 rw [e,h2] at h1
 exact hf i j hij hj tl tl' (List.append_cancel_left h1).symm
def ownL (n:Nat) (st sp:Int) (k:Nat):List Nat:=if 26 < n then [97 + ((st + sp * k) % 26).toNat,97 + k / 26] else [97 + ((st + sp * k) % 26).toNat]
theorem own_ne {n:Nat} {st sp:Int} (hn:n<=52) (hs:sp ∈ ([1,3,5,7,9,11,15,17]:List Int)) {i j:Nat} (hij:i < j) (hj:j < n) (tl tl':List Nat):ownL n st sp i ++ tl ≠ ownL n st sp j ++ tl':=by
 have key:((st + sp * i) % 26).toNat=((st + sp * j) % 26).toNat->(j - i) % 26=0:=by
  intro e
  have e2:(st + sp * i) % 26=(st + sp * j) % 26:=by
   have a1:=Int.emod_nonneg (st + sp * i) (show (26:Int) ≠ 0 by decide)
   have a2:=Int.emod_nonneg (st + sp * j) (show (26:Int) ≠ 0 by decide)
   (first|lia|omega)
  have g:Int.gcd 26 sp=1:=by
   simp only [List.mem_cons,List.not_mem_nil,or_false] at hs
   rcases hs with rfl | rfl | rfl | rfl | rfl | rfl | rfl | rfl <;> rfl
  have d:(26:Int) ∣ sp * ((j:Int) - i):=by
   refine Int.dvd_of_emod_eq_zero ?_
   have e3:sp * ((j:Int) - i)=(st + sp * j) - (st + sp * i):=by rw [Int.mul_sub]; (first|lia|omega)
   rw [e3,Int.sub_emod,e2,Int.sub_self]
   rfl
  have d2:(26:Int) ∣ (j:Int) - i:=by
   rw [Int.mul_comm] at d
   have e4:Nat.gcd 26 sp.natAbs=1:=g
   have e5:(26:Nat) ∣ ((j:Int) - i).natAbs * sp.natAbs:=by rw [<-Int.natAbs_mul]; exact Int.natAbs_dvd_natAbs.mpr d
   exact Int.natAbs_dvd_natAbs.mp (Nat.Coprime.dvd_of_dvd_mul_right e4 e5)
  (first|lia|omega)
 intro e
 unfold ownL at e
 by_cases h:26 < n
 ·rw [if_pos h,if_pos h] at e
  simp only [List.cons_append,List.nil_append,List.cons.injEq] at e
  have:=key (by (first|lia|omega))
  (first|lia|omega)
 ·rw [if_neg h,if_neg h] at e
  simp only [List.cons_append,List.nil_append,List.cons.injEq] at e
  have:=key (by (first|lia|omega))
  (first|lia|omega)
theorem letter_atI {i:Int} (h0:0<=i) (h1:i < 26):atI letters.cps.toList i=some (97 + i.toNat):=by
 obtain ⟨n,rfl⟩:∃ n:Nat,i=(n:Int):=⟨i.toNat,by (first|lia|omega)⟩
 have:∀ m:Fin 26,atI letters.cps.toList (m.val:Int)=some (97 + ((m.val:Int)).toNat):=by decide +kernel
 exact this ⟨n,by (first|lia|omega)⟩
def spNamesL:Sp:=fun vs H Q _=>∃ (p:Addr) (n:Nat),vs=[.ref p,.int n]/\PnAt H p/\n<=52 /\
 ∀ (H':Hp) (D:Addr) (xs:List Str),PnAt H' p->Keep p H H'->H D=none->H' D=some (.lst (xs.map V.str))->xs.length=n->xs.Nodup->(∀ x ∈ xs,nameB x=true)->Q (.ref D) H'
theorem len1 {α:Type} {l:List α} (h:l.length=1):∃ a,l=[a]:=List.length_eq_one_iff.mp h
theorem lenS {α:Type} {n:Nat} {l:List α} (h:l.length=n + 1):∃ a r,l=a :: r/\r.length=n:=by
 cases l with
 | nil=>cases h
 | cons a r=>exact ⟨a,r,rfl,Nat.succ.inj h⟩
theorem len2 {α:Type} {l:List α} (h:l.length=2):∃ a b,l=[a,b]:=by
 obtain ⟨a,r,rfl,hr⟩:=lenS h
 obtain ⟨b,rfl⟩:=len1 hr
 exact ⟨a,b,rfl⟩
theorem len3 {α:Type} {l:List α} (h:l.length=3):∃ a b c,l=[a,b,c]:=by
 obtain ⟨a,r,rfl,hr⟩:=lenS h
 obtain ⟨b,c,rfl⟩:=len2 hr
 exact ⟨a,b,c,rfl⟩
end L2
namespace L2
open PySem PySem.Spec PyProof.Rows
section
variable {K:Type} [DecidableEq K] [BEq K] [LawfulBEq K]
def met (val:Nat->K) (i:Nat):List K:=((List.range i).map val).foldl step_dedup []
theorem met_succ (val:Nat->K) (i:Nat):met val (i + 1)=step_dedup (met val i) (val i):=by
 unfold met; rw [List.range_succ,List.map_append,List.foldl_append]; rfl
theorem stepK_any (σ:List K) (v k:K):(step_dedup σ v).any (· == k)=(σ.any (· == k) || decide (k=v)):=by
 unfold step_dedup
 by_cases h:σ.any (· == v)=true
 ·rw [if_pos h]
  by_cases e:k=v
  ·subst e; rw [h]; simp
  ·simp [e]
 ·rw [if_neg h,List.any_append]
  by_cases e:k=v
  ·subst e; simp
  ·have hb:(v == k)=false:=by simpa [beq_iff_eq] using (fun h':v=k=>e h'.symm)
   simp [hb,e]
theorem stepK_length (σ:List K) (v:K):(step_dedup σ v).length=if σ.any (· == v) then σ.length else σ.length + 1:=by
 unfold step_dedup; split <;> simp
theorem met_length_le (val:Nat->K):∀ i,(met val i).length<=i
 | 0=>Nat.le_refl _
 | i + 1=>by
  rw [met_succ,stepK_length]
  have ih:=met_length_le val i
  split <;> (first|lia|omega)
end
section
variable {prog:Program} {w:World} {A:Around} {R:Result->Shared->Prop} {I:Addr} {fp wr:List Addr} {G:Array GenState->Array GenState->Prop} {n:Nat} {P:Nat->Value->Prop} {St:Nat->Shared->Prop}
variable {K:Type} [DecidableEq K] [BEq K] [LawfulBEq K] {knd:KeyKind prog w K}
end
section
variable {prog:Program} {w:World} {A:Around} {E:Value->Shared->Prop} {s:Shared}
variable {K:Type} [DecidableEq K] [BEq K] [LawfulBEq K] {knd:KeyKind prog w K}
open PySem.F in
end
theorem met_list (ss:List Str):met (fun i=>ss.getD i (Str.ofString "")) ss.length=ss.foldl step_dedup []:=by
 unfold met
 congr 1
 refine List.ext_getElem (by simp) fun i h1 h2=>?_
 simp [List.getD_eq_getElem?_getD,List.getElem?_eq_getElem h2]
theorem call_repr {X:Cx} (hg:X.A.guards=some []) (hu:X.A.units + 64 < cLine):CallR X (.builtin "repr") (fun xs H Q=>∃ (a:Addr) (d:PyData),xs=[.ref a]/\Dat H (.ref a) d/\d.showable=true/\d.hasDict=false/\d.depth<=60/\d.shown.length<=sizeLine/\Q (.str d.shown) H):=by
 intro pins s σ H xs us Q I r h
 obtain ⟨a,d,rfl,hd,hs,hn,hdp,hz,q⟩:=h
 obtain ⟨u,rfl,ru⟩:=vals1 r
 obtain ⟨as,rds⟩:=hd.reads I ru
 cases ru
 refine repr_of_reads' rds hs (fun z=>by rw [hn] at z; cases z) hg (by (first|lia|omega)) (fun _ _ e=>e) (fun h' u tk kk=>?_) hz
 exact ⟨.str d.shown,H,I.kept (t':=tk) kk,⟨u,rfl⟩,q⟩
end L2
namespace L2
open PySem PySem.Spec PyProof.Rows
theorem laid_led {mask finger moves:Nat} {led plain:Bool} {hs:Array Int} {t:SetTable} {o:Array Nat} (h:SetTable.laid mask finger moves led plain hs=some (t,o)):t.led=led/\t.plain=plain:=by
 unfold SetTable.laid at h
 cases e:SetTable.layClean mask hs with
 | none=>rw [e] at h; cases h
 | some ow=>
  rw [e] at h
  injection h with h
  injection h with h1 h2
  subst h1
  exact ⟨rfl,rfl⟩
theorem relay_led (t:SetTable) (es:Array (Int × Value)) (wanted:Nat):(relayAll t es wanted).2.1.led=t.led/\(t.plain=false->(relayAll t es wanted).2.1.plain=false):=by
 unfold relayAll
 split
 ·rename_i t' order e
  have:=laid_led e
  dsimp only
  split
  ·exact ⟨this.1,fun z=>this.2.trans z⟩
  ·exact ⟨rfl,fun _=>rfl⟩
 ·exact ⟨rfl,fun _=>rfl⟩
theorem lay_led (t:SetTable) (es:Array (Int × Value)) (h:Int) (x:Value):(layNew t es h x).2.1.led=t.led:=by
 unfold layNew
 split
 ·dsimp only
  unfold SetTable.orStandIn
  split <;> rfl
 ·rfl
section
variable {prog:Program} {w:World} {A:Around} {E:Value->Shared->Prop} {s:Shared}
def Tab (w:World) (es:Array (Int × Value)) (t:SetTable):Prop:=t.led=(!w.params.followText "set-order")/\(0 < es.size->t.plain=false)
def SetT (prog:Program) (w:World) (h:Heap) (a:Addr) (S:Str->Bool) (n:Nat):Prop:=
 ∃ o es ep t,h.get? a=some o/\o.ExactSet/\o.data=.set es ep t/\ElemsOf (PySem.strKind prog w) es.toList/\(∀ k,S k=true ↔ ∃ e ∈ es.toList,(PySem.strKind prog w).is k e.2=true) /\
  es.size < scanBound/\t.fits es.size=true/\es.size=n/\Tab w es t
theorem setT_add {a:Addr} {S:Str->Bool} {n:Nat} {k:Str} {tk:Tok} {Q:Bool->Shared->Prop} (hS:SetT prog w s.heap a S n) (room:n + 1 < scanBound)
  (h:∀ h',Heap.SameBut a s.heap h'->SetT prog w h' a (fun k'=>S k' || decide (k'=k)) (if S k then n else n + 1)->Q (!S k) { s with heap:=h' }) :
  wpAny (model prog w) A (setAddHashed a (.str k tk) ((PySem.strKind prog w).hash k)) Q E s:=by
 obtain ⟨o,es,ep,t,ho,ex,hd,el,mem,few,fit,hn,tab⟩:=hS
 have is:(PySem.strKind prog w).is k (.str k tk)=true:=by simp [PySem.strKind,Value.isStrOf]
 have sc:(Value.str k tk).scannable=true:=rfl
 have few1:es.size + 1 < scanBound:=by (first|lia|omega)
 unfold setAddHashed setAddHashedIn
 refine wpAny_holding (wpAny_bind (wpAny_setState_of ho hd fit ?_))
 dsimp only
 rw [if_pos (byScan_of sc few el)]
 unfold setAddByScan
 refine wpAny_bind (wpAny_bind (wpAny_rule (wpAny_bind (wpAny_setScan_of is ho hd fit el ?_))))
 cases hr:List.findIdx? (fun e=>(PySem.strKind prog w).is k e.2) es.toList with
 | some j=>
  obtain ⟨hj,pj,_⟩:=List.findIdx?_eq_some_iff_getElem.mp hr
  have there:S k=true:=(mem k).mpr ⟨es.toList[j],List.getElem_mem hj,pj⟩
  refine wpAny_pure (wpAny_pure ?_)
  have q:=h s.heap (Heap.SameBut.refl a s.heap) ⟨o,es,ep,t,ho,ex,hd,el,fun k'=>?_,few,fit,by rw [there]; exact hn,tab⟩
  ·rw [there] at q; exact q
  ·rw [Bool.or_eq_true,decide_eq_true_eq,<-mem k']
   exact ⟨fun z=>z.elim id fun e=>e ▸ there,.inl⟩
 | none=>
  have gone:S k=false:=by
   cases z:S k with
   | false=>rfl
   | true=>
    obtain ⟨e,he,hp⟩:=(mem k).mp z
    have:=List.findIdx?_eq_none_iff.mp hr e he
    rw [hp] at this
    cases this
  dsimp only
  have pm:=layNew_perm t es ((PySem.strKind prog w).hash k) (.str k tk)
  have ft:=layNew_fits t es ((PySem.strKind prog w).hash k) (.str k tk)
  have ld:=lay_led t es ((PySem.strKind prog w).hash k) (.str k tk)
  generalize layNew t es ((PySem.strKind prog w).hash k) (.str k tk)=L at pm ft ld ⊢
  obtain ⟨es1,t1,dum,gv⟩:=L
  dsimp only at pm ft ld ⊢
  rw [Array.toList_push] at pm
  have el1:=(el.push is sc).perm pm
  have mem1:=mem_push_iff is mem pm
  have z1:es1.size=n + 1:=by rw [<-Array.length_toList,pm.length_eq,List.length_append,Array.length_toList,hn]; rfl
  have few2:es1.size < scanBound:=by (first|lia|omega)
  have fin:∀ (es2:Array (Int × Value)) (t2:SetTable) (h':Heap) (o':Obj) (ep':Nat),Heap.SameBut a s.heap h'->h'.get? a=some o'->o'.ExactSet->o'.data=.set es2 ep' t2->es2.toList.Perm es1.toList->t2.fits es2.size=true->t2.led=t.led->t2.plain=false->Q true { s with heap:=h' }:=by
   intro es2 t2 h' o' ep' sb g x d p f l pl
   have z2:es2.size=n + 1:=by rw [<-z1,<-Array.length_toList,p.length_eq,Array.length_toList]
   have q:=h h' sb ⟨o',es2,ep',t2,g,x,d,el1.perm p,fun k'=>(mem1 k').trans ⟨fun ⟨e,he,r⟩=>⟨e,p.mem_iff.mpr he,r⟩,fun ⟨e,he,r⟩=>⟨e,p.mem_iff.mp he,r⟩⟩,by (first|lia|omega),f,by rw [gone]; exact z2,l.trans tab.1,fun _=>pl⟩
   rw [gone] at q
   exact q
  have gw:∀ (b:Bool) {s₁:Shared} {R:Unit->Shared->Prop},R () s₁->wpAny (model prog w) A (match b with | true=>rule "set.scan.the-table-gave-way" | false=>pure ()) R E s₁:=fun b s₁ R q=>by cases b <;> first | exact wpAny_pure q | exact wpAny_rule q
  refine wpAny_bind (gw gv ?_)
  have main:∀ t2:SetTable,t2.fits es1.size=true->t2.led=t.led->t2.plain=false->wpAny (model prog w) A (do
    storeSet a es1 t2
    if (!dum && t2.tooFull)=true then do
      (match (relayAll t2 es1 (SetTable.grown es1.size)).2.2 with | true=>rule "set.scan.the-table-gave-way" | false=>pure ())
      storeSet a (relayAll t2 es1 (SetTable.grown es1.size)).1 (relayAll t2 es1 (SetTable.grown es1.size)).2.1
      pure (some true)
     else pure (some true)) (fun r s'=>r=some true/\Q true s') E s:=by
   intro t2 f2 l2 p2
   refine wpAny_bind (wpAny_storeSet_of ho hd ?_ (fits_of_scanBound few2))
   obtain ⟨g1,_⟩:=SetOf_store (knd:=PySem.strKind prog w) ho ex hd el1 mem1 few2 f2
   have sb1:=Heap.SameBut.update s.heap a (Obj.putSet es1 t2)
   split
   ·have pr:=relayAll_perm t2 es1 (SetTable.grown es1.size)
    have fr:=relayAll_fits t2 es1 (SetTable.grown es1.size)
    have lr:=relay_led t2 es1 (SetTable.grown es1.size)
    generalize relayAll t2 es1 (SetTable.grown es1.size)=R at pr fr lr ⊢
    obtain ⟨es2,t3,gv2⟩:=R
    dsimp only at pr fr lr ⊢
    have z2:es2.size=es1.size:=by rw [<-Array.length_toList,pr.length_eq,Array.length_toList]
    refine wpAny_bind (gw gv2 ?_)
    refine wpAny_bind (wpAny_storeSet_of g1 rfl ?_ (fits_of_scanBound (by rw [z2]; exact few2)))
    have g2:=Heap.get?_update_self (Obj.putSet es2 t3) g1 (by rw [putSet_of es2 t3 rfl]; rfl)
    rw [putSet_of es2 t3 rfl] at g2
    exact wpAny_pure ⟨rfl,fin es2 t3 _ _ _ (sb1.trans (Heap.SameBut.update _ a _)) g2 ex rfl pr fr (lr.1.trans l2) (lr.2 p2)⟩
   ·exact wpAny_pure ⟨rfl,fin es1 t2 _ _ _ sb1 g1 ex rfl (.refl _) f2 l2 p2⟩
  by_cases pl:t1.plain=true
  ·rw [if_pos pl]
   refine wpAny_bind ?_
   rw [hashByValue_scannable 8 sc]
   refine wpAny_pure ?_
   refine wpAny_mono (main { t1 with plain:=false } (SetTable.fits_plain_off ft) ld rfl) (fun r s' z=>?_) fun _ _ z=>z
   obtain ⟨rfl,z⟩:=z
   exact wpAny_pure z
  ·rw [if_neg pl]
   refine wpAny_bind (wpAny_pure ?_)
   refine wpAny_mono (main t1 ft ld (by simpa using pl)) (fun r s' z=>?_) fun _ _ z=>z
   obtain ⟨rfl,z⟩:=z
   exact wpAny_pure z
end
end L2
namespace L2
open PySem PySem.Spec PyProof.Rows
section
variable {prog:Program} {w:World} {A:Around} {R:Result->Shared->Prop} {I:Addr} {fp wr:List Addr} {G:Array GenState->Array GenState->Prop} {n:Nat} {P:Nat->Value->Prop} {St:Nat->Shared->Prop}
theorem SetT.kept {h h':Heap} {a:Addr} {S:Str->Bool} {n:Nat} (hS:SetT prog w h a S n) (k:∀ o,h.get? a=some o->h'.get? a=some o):SetT prog w h' a S n:=by
 obtain ⟨o,es,ep,t,ho,r⟩:=hS
 exact ⟨o,es,ep,t,k _ ho,r⟩
theorem SetT.as {h:Heap} {a:Addr} {S S':Str->Bool} {n n':Nat} (hS:SetT prog w h a S n) (e:∀ k,S' k=S k) (en:n'=n):SetT prog w h a S' n':=by
 subst en
 have:S'=S:=funext e
 rw [this]
 exact hS
theorem setT_loop (W:WalksS prog w A.in1 I fp wr G n P St) (D:Addr) (hD:D ∉ fp) (val:Nat->Str) (hv:∀ i v,P i v->∃ tk,v=.str (val i) tk) (few:n + 1 < scanBound) :
  ∀ (k i:Nat) (s:Shared),n - i=k->i<=n->St i s->SetT prog w s.heap D (fun k'=>(met val i).any (· == k')) (met val i).length ->
   (∀ s',Moved (D :: wr) G s s'->SetT prog w s'.heap D (fun k'=>(met val n).any (· == k')) (met val n).length->R (.ok (.ret .none)) s') ->
   codeAny (model prog w) A (.builtin "set.update.loop" ⟨[.ref D,.ref I],[]⟩) R s:=by
 have hw:D ∉ wr:=fun z=>hD (W.sub _ z)
 have up:∀ b ∈ wr,b ∈ D :: wr:=fun b z=>List.mem_cons_of_mem _ z
 intro k
 induction k with
 | zero=>
  intro i s hk hi st hS q
  have e:i=n:=by (first|lia|omega)
  subst e
  refine codeAny_builtin F.entry_set_update_loop ?_
  rw [Around.under_plainId F.plain_set_update_loop _]
  refine wpAny_bind (W.done s _ _ st fun s' m=>?_)
  exact wpAny_pure (q s' (m.mono up) (hS.kept fun o e=>m.heap D _ hw e))
 | succ k ih=>
  intro i s hk hi st hS q
  have lt:i < n:=by (first|lia|omega)
  refine codeAny_builtin F.entry_set_update_loop ?_
  rw [Around.under_plainId F.plain_set_update_loop _]
  refine wpAny_bind (W.item i s _ _ lt st fun v s' pv st' m=>?_)
  obtain ⟨tk,rfl⟩:=hv i v pv
  have hS':=hS.kept (h':=s'.heap) fun o e=>m.heap D _ hw e
  refine wpAny_bind (wpAny_holding ?_)
  unfold setAdd
  refine wpAny_holding ?_
  refine wpAny_bind ((PySem.strKind prog w).pyHash (k:=val i) (by simp [PySem.strKind,Value.isStrOf]) ?_)
  refine setT_add (s:={ s' with toks:=s'.toks + 1 }) hS' (by have:=met_length_le val i; (first|lia|omega)) fun h' sb hS2=>?_
  have nx:SetT prog w h' D (fun k'=>(met val (i + 1)).any (· == k')) (met val (i + 1)).length:=
   hS2.as (fun k'=>by rw [met_succ,stepK_any]) (by rw [met_succ,stepK_length])
  refine wpAny_pure ⟨plainId_quiet F.plain_set_update_loop _,ih (i + 1) _ (by (first|lia|omega)) lt (W.frame _ s' _ _ st' (Nat.le_succ _) fun b z o e=>?_) nx fun s'' m2 hS3=>?_⟩
  ·rw [sb.2 b fun y:b=D=>hD (y ▸ z)]
   exact e
  ·refine q s'' (Moved.trans W.gtrans ((m.mono up).then_heap (Nat.le_succ _) fun b o z e=>?_) m2) hS3
   rw [sb.2 b fun y:b=D=>z (y ▸ List.mem_cons_self)]
   exact e
end
section
variable {prog:Program} {w:World} {A:Around} {E:Value->Shared->Prop} {s:Shared}
theorem setT_new (a:Value) {Q₁:Value->Shared->Prop}
  (h:Q₁ (.ref s.heap.objs.size) { s with heap:=s.heap.push { cls:=.type "set",dict:=none,data:=.set #[] 0 (.fresh 0 0 (!w.params.followText "set-order")) } }) :
  codeAny (model prog w) A (.call (.builtin "set.__new__") ⟨[.type "set",a],[]⟩) (wants Q₁ E) s:=by
 refine codeAny_of_tree ?_
 show wpAny _ A.in1 (checkBuiltinCall "set.__new__" ⟨[.type "set",a],[]⟩ >>= fun _=>again (.builtin "set.__new__" ⟨[.type "set",a],[]⟩)) _ _ s
 refine wpAny_bind (wpAny_of_eq (F.newCall_set_1 a) (wpAny_pure ⟨plainId_quiet F.plain_set_new _,codeAny_builtin F.entry_set_new ?_⟩))
 rw [Around.under_plainId F.plain_set_new _]
 unfold Builtin.«set.__new__» Builtin.Frozenset.newClass
 have hsub:=sub_set_self
 obtain ⟨hp,g,d,tk,os⟩:=s
 dsimp only
 wp_walk
 refine wpAny_askSetting (wpAny_pure ?_)
 dsimp only
 simp only [newObj]
 refine wpAny_bind (wpAny_alloc (wpAny_pure ?_))
 exact wpAny_pure h
theorem setT_of {a:Addr} {T:String} {o:Obj} {oI:Obj} {items:Array Value} {val:Nat->Str} {St:Addr->Nat->Heap->Prop} {Q:Value->Shared->Prop} (hh:A.handled=none)
  (ho:s.heap.get? a=some o) (hc:o.cls=.type T) (hnd:(Value.type T == Value.type "dict")=false) (hs1:isSubtype (.type T) (.type "set")=pure false) (hs2:isSubtype (.type T) (.type "frozenset")=pure false)
  (hit:∀ (B:Around) (E':Value->Shared->Prop) (s1:Shared) (Q':Value->Shared->Prop),(∀ b o,s.heap.get? b=some o->s1.heap.get? b=some o)->Q' (.ref s1.heap.objs.size) { s1 with heap:=s1.heap.push oI }->wpAny (model prog w) B (pyIter (.ref a)) Q' E' s1)
  (hW:∀ (B:Around) (I:Addr),B.handled=none->a ≠ I->Walks prog w B I [I,a] [I] items.size (fun i v=>items[i]? = some v) (St I))
  (hst:∀ h:Heap,(∀ b o,s.heap.get? b=some o->h.get? b=some o)->St h.objs.size 0 (h.push oI))
  (hi:∀ (i:Nat) v,items[i]? = some v->∃ tk,v=.str (val i) tk) (few:items.size + 1 < scanBound)
  (h:∀ (h':Heap) (tk:Nat),SetT prog w h' s.heap.objs.size (fun k'=>(met val items.size).any (· == k')) (met val items.size).length ->
   (∀ b o,s.heap.get? b=some o->h'.get? b=some o)->Q (.ref s.heap.objs.size) { s with heap:=h',toks:=tk }) :
  wpAny (model prog w) A (call (.type "set") [.ref a]) Q E s:=by
 obtain ⟨c,tl,hmro⟩:=F.called_set.mro
 have hmade:=F.called_set.made
 have hsub:=F.called_set.sub
 refine wpAny_call (codeAny_of_tree ?_)
 show wpAny _ _ (callAny (.type "set") _) _ _ _
 refine wpAny_pure ⟨Code.quiet_builtin _ (by decide +kernel),codeAny_builtin F.entry_type_call ?_⟩
 rw [Around.under_plain (weight_type_call_type "set" [.ref a] []) rfl]
 have h1:=F.called_set.notType
 have h2:=F.called_set.canCreate
 have hct:=F.typeCall_set_1 (.ref a)
 repeat (any_goals (first | assumption | wp_step))
 obtain ⟨fr,efr⟩:∃ fr:Obj,fr = { cls:=.type "set",dict:=none,data:=.set #[] 0 (.fresh 0 0 (!w.params.followText "set-order")) }:=⟨_,rfl⟩
 refine codeAny_mono (setT_new (.ref a) (E:=E) (Q₁:=fun obj s₁=>obj=.ref s.heap.objs.size/\s₁ = { s with heap:=s.heap.push fr }) ⟨rfl,by rw [efr]⟩) fun r s₁ hr=>?_
 have gS:(s.heap.push fr).get? s.heap.objs.size=some fr:=Heap.get?_push_size _ (by rw [efr]; rfl)
 have cf:fr.cls=.type "set":=by rw [efr]
 have new:∀ h5:Heap,h5.get? s.heap.objs.size=some fr->SetT prog w h5 s.heap.objs.size (fun k'=>(met val 0).any (· == k')) (met val 0).length:=fun h5 g=>
  ⟨fr,#[],0,.fresh 0 0 (!w.params.followText "set-order"),g,by rw [efr]; exact ⟨rfl,rfl,rfl⟩,by rw [efr],fun e he=>by simp at he,fun k=>by simp [met],by decide,rfl,rfl,rfl,fun z=>by simp at z⟩
 cases r with
 | error e=>exact hr
 | ok fl=>
  cases fl with
  | ret obj=>
   obtain ⟨rfl,rfl⟩:=hr
   have hT:Shared.TypeIs { s with heap:=s.heap.push fr } (.ref s.heap.objs.size) "set":=⟨_,gS,cf⟩
   have hli:=F.called_set.init.lookup
   have hbi:=F.called_set.init.bind (.ref s.heap.objs.size)
   repeat (any_goals (first | assumption | wp_step))
   refine codeAny_mono (codeAny_call_builtin (R:=wants (fun r s₂=>r=.none/\∃ h' tk,s₂ = { s with heap:=h',toks:=tk } /\
     SetT prog w h' s.heap.objs.size (fun k'=>(met val items.size).any (· == k')) (met val items.size).length /\
     (∀ b o,s.heap.get? b=some o->h'.get? b=some o)) E) F.called_set.init.plain F.entry_set_init (check_set_init_1 hT ?_)) fun r₂ s₂ hr₂=>?_
   ·obtain ⟨ocls,odict,odata,oslots⟩:=o
    simp only at hc
    subst hc
    have lt:a < s.heap.objs.size:=Heap.lt_size ho
    have ho':(s.heap.push fr).get? a=some { cls:=.type T,dict:=odict,data:=odata,slots:=oslots }:=Heap.get?_push_of_some _ ho
    subst efr
    unfold Builtin.«set.__init__» noKeywords Builtin.Frozenset.updateFrom
    generalize hPI:pyIter=PI
    wp_walk
    subst hPI
    refine hit _ _ _ _ (fun b o e=>Heap.get?_push_of_some _ e) ?_
    refine wpAny_bind (wpAny_runValue ?_)
    have ne:a ≠ (s.heap.push { cls:=.type "set",dict:=none,data:=.set #[] 0 (.fresh 0 0 (!w.params.followText "set-order")) }).objs.size:=by
     rw [Heap.size_push]; exact Nat.ne_of_lt (Nat.lt_succ_of_lt lt)
    have nS:s.heap.objs.size ∉ [(s.heap.push { cls:=.type "set",dict:=none,data:=.set #[] 0 (.fresh 0 0 (!w.params.followText "set-order")) }).objs.size,a]:=by
     rw [Heap.size_push]; simp only [List.mem_cons,List.not_mem_nil,or_false,not_or]
     exact ⟨Nat.ne_of_lt (Nat.lt_succ_self _),Nat.ne_of_gt lt⟩
    refine setT_loop ((hW _ _ (by simp [hh]) ne).toS) s.heap.objs.size nS val hi few (items.size - 0) 0 _ (by (first|lia|omega)) (Nat.zero_le _) (hst _ fun b o e=>Heap.get?_push_of_some _ e) (new _ (Heap.get?_push_of_some _ gS)) ?_
    intro s' hm hS'
    obtain ⟨h',g',d',tk',os'⟩:=s'
    have eg:g'=s.gens:=hm.gens
    have ed:d'=s.drawn:=hm.drawn
    have eo:os'=s.os:=hm.os
    subst eg ed eo
    refine wpAny_pure ?_
    refine wpAny_pure ⟨rfl,h',tk',rfl,hS',fun b o e=>?_⟩
    have hb:=Heap.lt_size e
    have hb1:b ≠ s.heap.objs.size:=Nat.ne_of_lt hb
    have hb2:b ≠ (s.heap.push { cls:=.type "set",dict:=none,data:=.set #[] 0 (.fresh 0 0 (!w.params.followText "set-order")) }).objs.size:=by
     rw [Heap.size_push]; exact Nat.ne_of_lt (Nat.lt_succ_of_lt hb)
    exact hm.heap b o (by simp only [List.mem_cons,List.not_mem_nil,or_false,not_or]; exact ⟨hb1,hb2⟩) (Heap.get?_push_of_some _ (Heap.get?_push_of_some _ e))
   ·cases r₂ with
    | error e=>exact hr₂
    | ok fl₂=>
     cases fl₂ with
     | ret r=>
      obtain ⟨rfl,h',tk,rfl,hS',hk'⟩:=hr₂
      repeat (any_goals (first | assumption | wp_step))
      exact h _ _ hS' hk'
     | _=>exact hr₂.elim
  | _=>exact hr.elim
end
end L2
namespace L2
open PySem PySem.Spec PyProof.Rows
theorem entry_set_iter:entryFor table "set.__iter__"=some Builtin.«frozenset.__iter__»:=
 entryFor_alias (id':="frozenset.__iter__") (by kernel_rfl) rfl (by decide +kernel) (by kernel_rfl)
theorem entry_seti_next:entryFor table "set_iterator.__next__"=some Builtin.«set_iterator.__next__»:=entryFor_of_tree (by kernel_rfl)
theorem slot_seti_next:Slot "set_iterator" "__next__" "set_iterator.__next__":=
 .of (owner:="set_iterator") (n:="__next__") (by rw [typeLookup_type,builtinLookup_eq_fast]; kernel_rfl) (by decide +kernel) (by decide +kernel) (by decide +kernel)
  (by first | exact .inl (by decide +kernel) | exact .inr (by decide +kernel)) (by rw [isSubtype_type]; kernel_rfl)
theorem slot_seti_iter:Slot "set_iterator" "__iter__" "set_iterator.__iter__":=
 .of (owner:="set_iterator") (n:="__iter__") (by rw [typeLookup_type,builtinLookup_eq_fast]; kernel_rfl) (by decide +kernel) (by decide +kernel) (by decide +kernel)
  (by first | exact .inl (by decide +kernel) | exact .inr (by decide +kernel)) (by rw [isSubtype_type]; kernel_rfl)
theorem args_seti_next (a:Value):argsOk "set_iterator.__next__" ⟨[a],[]⟩:=by unfold argsOk; kernel_rfl
theorem args_seti_iter (a:Value):argsOk "set_iterator.__iter__" ⟨[a],[]⟩:=by unfold argsOk; kernel_rfl
theorem entry_seti_iter:entryFor table "set_iterator.__iter__"=some Builtin.«dict_keyiterator.__iter__»:=
 entryFor_alias (id':="dict_keyiterator.__iter__") (by kernel_rfl) (by first | rfl | decide +kernel | (unfold String.splitOn; simp +decide [String.splitOnAux])) (by decide +kernel) (by kernel_rfl)
section
variable {prog:Program} {w:World} {A:Around} {E:Value->Shared->Prop} {s:Shared}
def setIt (x:Value) (i:Int) (a:Addr) (n ep:Nat):Obj:={ cls:=.type "set_iterator",data:=.fields #[x,.int i 0,.ref a,.int n 0,.int ep 0] }
theorem seti_self {r a:Addr} {x:Value} {i:Int} {n ep:Nat} {Q:Value->Shared->Prop} (hr:s.heap.get? r=some (setIt x i a n ep)) (h:Q (.ref r) s):wpAny (model prog w) A (pyIter (.ref r)) Q E s:=by
 have hT:s.TypeIs (.ref r) "set_iterator":=⟨_,hr,rfl⟩
 refine wpAny_pyIter_slot hT slot_seti_iter (wpAny_call_entry slot_seti_iter hT entry_seti_iter ?_ (args_seti_iter _))
 show wpAny _ _ (ret (.ref r)) _ _ s
 exact wpAny_pure ⟨_,rfl,"set_iterator",_,hT,slot_seti_next.lookup,h⟩
def stepOf (w:World) (a:Addr) (es:Array (Int × Value)) (ep:Nat) (t:SetTable) (slot given:Nat):Option (Value × Nat):=
 if w.params.followText "set-order"=true then ((pickOrder (w.params.setOrder a ep) es)[given]?).map fun e=>(e.2,slot) else
 match es[SetTable.below t.place slot]?,t.place[SetTable.below t.place slot]? with
  | some (_,x),some j=>some (x,j + 1)
  | _,_=>none
theorem set_next {a:Addr} {o:Obj} {es:Array (Int × Value)} {ep:Nat} {t:SetTable} {slot given:Nat} {Q:Option (Value × Nat)->Shared->Prop} (ho:s.heap.get? a=some o) (hd:o.data=.set es ep t) (fit:t.fits es.size=true) (tab:Tab w es t)
  (few:w.params.followText "set-order"=false->es.size<=1) (h:Q (stepOf w a es ep t slot given) s):wpAny (model prog w) A (setNext a slot given ep) Q E s:=by
 unfold setNext
 refine wpAny_bind (wpAny_setState_of ho hd fit ?_)
 dsimp only
 unfold setsByText
 refine wpAny_bind (wpAny_bind (wpAny_askSetting (wpAny_pure ?_)))
 unfold stepOf at h
 show wpAny _ _ (if w.params.followText "set-order"=true then _ else _) _ _ _
 by_cases z:w.params.followText "set-order"=true
 ·rw [if_pos z] at h
  rw [if_pos z,if_neg (by simp)]
  unfold setWalk
  refine wpAny_bind (wpAny_bind (wpAny_setState_of ho hd fit ?_))
  dsimp only
  unfold setsByText
  refine wpAny_bind (wpAny_bind (wpAny_askSetting (wpAny_pure ?_)))
  show wpAny _ _ (if w.params.followText "set-order"=true then _ else _) _ _ _
  rw [if_pos z]
  refine wpAny_bind (wpAny_askSetting (wpAny_pure ?_))
  exact wpAny_pure h
 ·rw [if_neg z] at h
  rw [if_neg z]
  have z':w.params.followText "set-order"=false:=by simpa using z
  have sm:=few z'
  show wpAny _ _ (if (!t.plain && decide (es.size > 1))=true then _ else _) _ _ _
  rw [if_neg (by simp; (first|lia|omega))]
  refine wpAny_bind ?_
  show wpAny _ _ (if (!t.led && !es.isEmpty)=true then _ else _) _ _ _
  rw [if_neg (by rw [tab.1,z']; simp)]
  exact wpAny_pure (wpAny_pure h)
theorem seti_item {r a:Addr} {slot i:Nat} {o:Obj} {es:Array (Int × Value)} {ep:Nat} {t:SetTable} {x:Value} {nx:Nat} {Q:Option Value->Shared->Prop}
  (hr:s.heap.get? r=some (setIt (.int slot 0) i a es.size ep)) (ho:s.heap.get? a=some o) (hd:o.data=.set es ep t) (fit:t.fits es.size=true) (tab:Tab w es t) (few:w.params.followText "set-order"=false->es.size<=1)
  (hx:stepOf w a es ep t slot i=some (x,nx))
  (hQ:∀ h',h'.get? r=some (setIt (.int nx 0) (i + 1) a es.size ep)->Heap.SameBut r s.heap h'->Q (some x) { s with heap:=h' }) :
  wpAny (model prog w) A (pyNext (.ref r)) Q E s:=by
 have hT:s.TypeIs (.ref r) "set_iterator":=⟨_,hr,rfl⟩
 obtain ⟨hp,g,d,tk,os⟩:=s
 unfold pyNext
 refine wpAny_bind (wpAny_attempt (wpAny_callSpecial?_slot (name:=Str.ofString "__next__") hT slot_seti_next
  (wpAny_call_entry slot_seti_next hT entry_seti_next ?_ (args_seti_next _))))
 unfold Builtin.«set_iterator.__next__»
 unfold setIt at hr
 repeat (any_goals (first | assumption | (refine wpAny_setEntries_of ho hd fit ?_) | (refine set_next (given:=i) (slot:=slot) ho hd fit tab few ?_) | wp_step))
 rw [show ((ep:Nat):Int).toNat=ep by simp,hx]
 repeat (any_goals (first | assumption | wp_step))
 refine ⟨_,rfl,wpAny_pure (hQ _ ?_ ((Heap.SameBut.update ..).trans (Heap.SameBut.update ..)))⟩
 have e1:=Heap.get?_update_self (Obj.mapFields fun fs=>fs.setIfInBounds 0 (rawInt nx)) hr rfl
 have e2:=Heap.get?_update_self (Obj.mapFields fun fs=>fs.setIfInBounds 1 (rawInt (i + 1))) e1 rfl
 exact e2
theorem seti_end {r a:Addr} {slot i:Nat} {o:Obj} {es:Array (Int × Value)} {ep:Nat} {t:SetTable} {Q:Option Value->Shared->Prop} (hh:A.handled=none)
  (hr:s.heap.get? r=some (setIt (.int slot 0) i a es.size ep)) (ho:s.heap.get? a=some o) (hd:o.data=.set es ep t) (fit:t.fits es.size=true) (tab:Tab w es t) (few:w.params.followText "set-order"=false->es.size<=1)
  (hx:stepOf w a es ep t slot i=none)
  (hQ:∀ h',Heap.ExtBut r s.heap h'->Q none { s with heap:=h' }) :
  wpAny (model prog w) A (pyNext (.ref r)) Q E s:=by
 have hT:s.TypeIs (.ref r) "set_iterator":=⟨_,hr,rfl⟩
 obtain ⟨hp,g,d,tk,os⟩:=s
 unfold pyNext
 refine wpAny_bind (wpAny_attempt (wpAny_callSpecial?_slot (name:=Str.ofString "__next__") hT slot_seti_next
  (wpAny_call_entry slot_seti_next hT entry_seti_next ?_ (args_seti_next _))))
 unfold Builtin.«set_iterator.__next__»
 unfold setIt at hr
 repeat (any_goals (first | assumption | (refine wpAny_setEntries_of ho hd fit ?_) | (refine set_next (given:=i) (slot:=slot) ho hd fit tab few ?_) | wp_step))
 rw [show ((ep:Nat):Int).toNat=ep by simp,hx]
 repeat (any_goals (first | assumption | wp_step))
 simp only [raiseNew]
 refine wpAny_bind (wpAny_handled ?_)
 rw [show A.in1.handled=none from hh]
 refine wpAny_bind (wpAny_pure (wpAny_throw ?_))
 refine wpAny_bind (wpAny_isInstance (T:="StopIteration") (b:=true) ⟨_,Heap.get?_push_size _ rfl,rfl⟩ isSubtype_stop ?_)
 exact wpAny_pure (hQ _ fun b o hb e=>Heap.get?_push_of_some _ (Heap.get?_push_of_some _ ((Heap.SameBut.update ..).extBut b o hb e)))
end
end L2
namespace L2
open PySem PySem.Spec PyProof.Rows
section
variable {prog:Program} {w:World} {A:Around} {E:Value->Shared->Prop} {s:Shared}
def ordT (is:List Nat) (c:Nat):Obj:={ cls:=.type "tuple",data:=.seq (is.map fun (i:Nat)=>rawInt i).toArray c }
theorem setd_next {a:Addr} {o:Obj} {es:Array (Int × Value)} {ep:Nat} {t:SetTable} {j:Nat} {h:Int} {x:Value} {Q:Value->Shared->Prop} (ho:s.heap.get? a=some o) (hd:o.data=.set es ep t) (fit:t.fits es.size=true)
  (hx:es[j]? = some (h,x)) (q:Q x s):wpAny (model prog w) A (setNextDrawn a j ep) Q E s:=by
 unfold setNextDrawn
 refine wpAny_bind (wpAny_setState_of ho hd fit ?_)
 dsimp only
 rw [if_neg (by simp),hx]
 exact wpAny_pure q
theorem setd_item {r a p:Addr} {i c:Nat} {o:Obj} {es:Array (Int × Value)} {ep:Nat} {t:SetTable} {is:List Nat} {j:Nat} {h:Int} {x:Value} {Q:Option Value->Shared->Prop}
  (hr:s.heap.get? r=some (setIt (.ref p) i a es.size ep)) (hp:s.heap.get? p=some (ordT is c)) (ho:s.heap.get? a=some o) (hd:o.data=.set es ep t) (fit:t.fits es.size=true)
  (hj:is[i]? = some j) (hx:es[j]? = some (h,x))
  (hQ:∀ h',h'.get? r=some (setIt (.ref p) (i + 1) a es.size ep)->Heap.SameBut r s.heap h'->Q (some x) { s with heap:=h' }) :
  wpAny (model prog w) A (pyNext (.ref r)) Q E s:=by
 have hT:s.TypeIs (.ref r) "set_iterator":=⟨_,hr,rfl⟩
 have hj':((is.map fun (i:Nat)=>rawInt i).toArray)[i]? = some (.int j 0):=by simp [hj,rawInt]
 obtain ⟨hp,g,d,tk,os⟩:=s
 unfold pyNext
 refine wpAny_bind (wpAny_attempt (wpAny_callSpecial?_slot (name:=Str.ofString "__next__") hT slot_seti_next
  (wpAny_call_entry slot_seti_next hT entry_seti_next ?_ (args_seti_next _))))
 unfold Builtin.«set_iterator.__next__»
 unfold setIt at hr
 unfold ordT at hp
 repeat (any_goals (first | assumption | (refine wpAny_setEntries_of ho hd fit ?_) | wp_step))
 rw [show ((i:Nat):Int).toNat=i by simp,hj']
 dsimp only
 refine wpAny_bind (setd_next (h:=h) (x:=x) ho hd fit (by simpa using hx) ?_)
 repeat (any_goals (first | assumption | wp_step))
 refine ⟨_,rfl,wpAny_pure (hQ _ ?_ (Heap.SameBut.update ..))⟩
 exact Heap.get?_update_self (Obj.mapFields fun fs=>fs.setIfInBounds 1 (rawInt (i + 1))) hr rfl
theorem setd_end {r a p:Addr} {i c:Nat} {o:Obj} {es:Array (Int × Value)} {ep:Nat} {t:SetTable} {is:List Nat} {Q:Option Value->Shared->Prop} (hh:A.handled=none)
  (hr:s.heap.get? r=some (setIt (.ref p) i a es.size ep)) (hp:s.heap.get? p=some (ordT is c)) (ho:s.heap.get? a=some o) (hd:o.data=.set es ep t) (fit:t.fits es.size=true)
  (hj:is[i]? = none) (hQ:∀ h',Heap.ExtBut r s.heap h'->Q none { s with heap:=h' }) :
  wpAny (model prog w) A (pyNext (.ref r)) Q E s:=by
 have hT:s.TypeIs (.ref r) "set_iterator":=⟨_,hr,rfl⟩
 have hj':((is.map fun (i:Nat)=>rawInt i).toArray)[i]? = none:=by simpa using hj
 obtain ⟨hp,g,d,tk,os⟩:=s
 unfold pyNext
 refine wpAny_bind (wpAny_attempt (wpAny_callSpecial?_slot (name:=Str.ofString "__next__") hT slot_seti_next
  (wpAny_call_entry slot_seti_next hT entry_seti_next ?_ (args_seti_next _))))
 unfold Builtin.«set_iterator.__next__»
 unfold setIt at hr
 unfold ordT at hp
 repeat (any_goals (first | assumption | (refine wpAny_setEntries_of ho hd fit ?_) | wp_step))
 rw [show ((i:Nat):Int).toNat=i by simp,hj']
 repeat (any_goals (first | assumption | wp_step))
 simp only [raiseNew]
 refine wpAny_bind (wpAny_handled ?_)
 rw [show A.in1.handled=none from hh]
 refine wpAny_bind (wpAny_pure (wpAny_throw ?_))
 refine wpAny_bind (wpAny_isInstance (T:="StopIteration") (b:=true) ⟨_,Heap.get?_push_size _ rfl,rfl⟩ isSubtype_stop ?_)
 exact wpAny_pure (hQ _ fun b o hb e=>Heap.get?_push_of_some _ (Heap.get?_push_of_some _ ((Heap.SameBut.update ..).extBut b o hb ((Heap.SameBut.update ..).extBut b o hb e))))
theorem walk_plain (hh:A.handled=none) (I a:Addr) (ne:a ≠ I) {o:Obj} {es:Array (Int × Value)} {ep:Nat} {t:SetTable} (hd:o.data=.set es ep t) (fit:t.fits es.size=true) (tab:Tab w es t) (few:w.params.followText "set-order"=false->es.size<=1)
  (vs:List Value) (sl:Nat->Nat) (hs:∀ (i:Nat) (v:Value),vs[i]? = some v->stepOf w a es ep t (sl i) i=some (v,sl (i + 1))) (he:stepOf w a es ep t (sl vs.length) vs.length=none) :
  Walks prog w A I [I,a] [I] vs.length (fun i v=>vs[i]? = some v) (fun i h=>h.get? I=some (setIt (.int (sl i:Nat) 0) i a es.size ep)/\h.get? a=some o) where
 sub:=fun b hb=>by simp at hb; simp [hb]
 frame:=fun i h h' st k=>⟨k I (by simp) _ st.1,k a (by simp) _ st.2⟩
 item:=fun i s Q E hi st q=>by
  have e:vs[i]? = some vs[i]:=by simp [hi]
  refine seti_item st.1 st.2 hd fit tab few (hs i _ e) fun h' hr sb=>q _ h' s.toks e ⟨hr,?_⟩ fun b o hb z=>?_
  ·rw [sb.2 a ne]; exact st.2
  ·rw [sb.2 b (by simpa using hb)]; exact z
 done:=fun s Q E st q=>seti_end hh st.1 st.2 hd fit tab few he fun h' eb=>q h' s.toks fun b o hb z=>eb b o (by simpa using hb) z
 self:=fun i s Q E st q=>seti_self st.1 q
theorem walk_drawn (hh:A.handled=none) (I a p:Addr) (ne:a ≠ I) (np:p ≠ I) {o:Obj} {es:Array (Int × Value)} {ep c:Nat} {t:SetTable} (hd:o.data=.set es ep t) (fit:t.fits es.size=true)
  (is:List Nat) (vs:List Value) (hl:is.length=vs.length) (hs:∀ (i:Nat) (v:Value),vs[i]? = some v->∃ j h,is[i]? = some j/\es[j]? = some (h,v)) :
  Walks prog w A I [I,a,p] [I] vs.length (fun i v=>vs[i]? = some v) (fun i h=>h.get? I=some (setIt (.ref p) i a es.size ep)/\h.get? a=some o/\h.get? p=some (ordT is c)) where
 sub:=fun b hb=>by simp at hb; simp [hb]
 frame:=fun i h h' st k=>⟨k I (by simp) _ st.1,k a (by simp) _ st.2.1,k p (by simp) _ st.2.2⟩
 item:=fun i s Q E hi st q=>by
  have e:vs[i]? = some vs[i]:=by simp [hi]
  obtain ⟨j,h,e1,e2⟩:=hs i _ e
  refine setd_item st.1 st.2.2 st.2.1 hd fit e1 e2 fun h' hr sb=>q _ h' s.toks e ⟨hr,?_,?_⟩ fun b o hb z=>?_
  ·rw [sb.2 a ne]; exact st.2.1
  ·rw [sb.2 p np]; exact st.2.2
  ·rw [sb.2 b (by simpa using hb)]; exact z
 done:=fun s Q E st q=>setd_end hh st.1 st.2.2 st.2.1 hd fit (by simp [hl]) fun h' eb=>q h' s.toks fun b o hb z=>eb b o (by simpa using hb) z
 self:=fun i s Q E st q=>seti_self st.1 q
theorem erase_perm {α:Type} {xs:List α} {i:Nat} {x:α} (h:xs[i]? = some x):(x :: xs.eraseIdx i).Perm xs:=by
 induction xs generalizing i with
 | nil=>simp at h
 | cons y ys ih=>
  cases i with
  | zero=>simp at h; subst h; exact .refl _
  | succ i=>
   simp only [List.getElem?_cons_succ] at h
   exact (List.Perm.swap _ _ _).trans ((ih h).cons _)
theorem draw_order {α:Type}:∀ (n:Nat) (xs:List α) (s:Shared) (Q:List α->Shared->Prop),n=xs.length->(∀ ys dr,ys.Perm xs->Q ys { s with drawn:=dr })->wpAny (model prog w) A (drawOrder n xs) Q E s
 | 0,[],s,Q,_,h=>wpAny_pure (h [] s.drawn (.refl _))
 | n + 1,x :: xs,s,Q,hn,h=>by
  unfold drawOrder
  refine wpAny_bind ?_
  intro Γ p hΓ
  refine ⟨by simp,?_⟩
  have lt:w.draws .order (s.drawn.get .order) % (x :: xs).length < (x :: xs).length:=Nat.mod_lt _ (by simp)
  show wpAny (model prog w) A (match (x :: xs)[w.draws .order (s.drawn.get .order) % (x :: xs).length]? with
   | some y=>drawOrder n ((x :: xs).eraseIdx (w.draws .order (s.drawn.get .order) % (x :: xs).length)) >>= fun r=>pure (y :: r)
   | none=>unsupported "internal:drawOrder") Q E { s with drawn:=s.drawn.bump .order }
  generalize w.draws .order (s.drawn.get .order) % (x :: xs).length=i at lt
  have e:(x :: xs)[i]? = some (x :: xs)[i]:=by simp
  rw [e]
  refine wpAny_bind (draw_order n _ _ _ (by rw [List.length_eraseIdx]; simp only [lt,if_true]; (first|lia|omega)) fun ys dr pm=>?_)
  exact wpAny_pure (h _ dr ((pm.cons _).trans (erase_perm e)))
theorem pick_go {α:Type} (next:Nat->Nat):∀ (fuel k:Nat) (left:List α) (out:Array α),fuel=left.length->(pickOrder.go next fuel k left out).toList.Perm (out.toList ++ left)
 | 0,k,[],out,_=>by unfold pickOrder.go; simp
 | fuel + 1,k,x :: xs,out,h=>by
  unfold pickOrder.go
  have lt:next k % (x :: xs).length < (x :: xs).length:=Nat.mod_lt _ (by simp)
  generalize next k % (x :: xs).length=i at lt
  have e:(x :: xs)[i]? = some (x :: xs)[i]:=by simp
  rw [e]
  refine (pick_go next fuel (k + 1) _ _ (by rw [List.length_eraseIdx]; simp only [lt,if_true]; simp at h ⊢; (first|lia|omega))).trans ?_
  rw [Array.toList_push,List.append_assoc]
  exact (erase_perm e).append_left _
theorem pick_perm {α:Type} (next:Nat->Nat) (xs:Array α):(pickOrder next xs).toList.Perm xs.toList:=by
 unfold pickOrder
 simpa using pick_go next xs.size 0 xs.toList #[] (by simp)
end
end L2
namespace L2
open PySem PySem.Spec PyProof.Rows
theorem strs_all:∀ {vs:List Value},(∀ v ∈ vs,∃ x t,v=Value.str x t)->∃ ks,StrsAre vs ks
 | [],_=>⟨[],.nil⟩
 | v :: vs,h=>by
  obtain ⟨x,t,rfl⟩:=h v (by simp)
  obtain ⟨ks,r⟩:=strs_all fun u hu=>h u (List.mem_cons_of_mem _ hu)
  exact ⟨x :: ks,.cons x t r⟩
theorem strs_mem {P:Program} {w:World} {vs:List Value} {ks:List Str} (h:StrsAre vs ks) (k:Str):k ∈ ks ↔ ∃ v ∈ vs,(PySem.strKind P w).is k v=true:=by
 induction h with
 | nil=>simp
 | cons x t r ih=>
  rw [List.mem_cons,ih]
  constructor
  ·rintro (rfl | ⟨v,hv,e⟩)
   ·exact ⟨_,List.mem_cons_self,by simp [PySem.strKind,Value.isStrOf]⟩
   ·exact ⟨v,List.mem_cons_of_mem _ hv,e⟩
  ·rintro ⟨v,hv,e⟩
   rcases List.mem_cons.mp hv with rfl | hv
   ·refine .inl ?_
    have e':Value.isStrOf k (.str x t)=true:=e
    first | exact (eq_of_beq e').symm | exact eq_of_beq e' | exact of_decide_eq_true e' | exact (of_decide_eq_true e').symm
   ·exact .inr ⟨v,hv,e⟩
section
variable {prog:Program} {w:World} {A:Around} {E:Value->Shared->Prop} {s:Shared}
theorem set_drawn {a:Addr} {o:Obj} {es:Array (Int × Value)} {ep:Nat} {t:SetTable} {Q:Bool->Shared->Prop} (ho:s.heap.get? a=some o) (hd:o.data=.set es ep t) (fit:t.fits es.size=true)
  (h:Q (!w.params.followText "set-order" && (!t.plain && decide (es.size > 1))) s):wpAny (model prog w) A (setDrawn a) Q E s:=by
 unfold setDrawn
 refine wpAny_bind (wpAny_setState_of ho hd fit ?_)
 dsimp only
 unfold setsByText
 exact wpAny_bind (wpAny_bind (wpAny_askSetting (wpAny_pure (wpAny_pure h))))
theorem setT_iter {a:Addr} {S:Str->Bool} {n:Nat} {Q:Value->Shared->Prop} (hS:SetT prog w s.heap a S n)
  (h:∀ (h':Heap) (dr:Drawn) (I:Addr) (fp:List Addr) (vs:List Value) (ks:List Str) (St:Nat->Heap->Prop),(∀ b o,s.heap.get? b=some o->h'.get? b=some o)->s.heap.objs.size<=I->(∀ b ∈ fp,b=a\/s.heap.objs.size<=b) ->
   StrsAre vs ks->(∀ k,S k=true ↔ k ∈ ks)->ks.length=n->(∀ B:Around,B.handled=none->Walks prog w B I fp [I] vs.length (fun i v=>vs[i]? = some v) St)->St 0 h'->Q (.ref I) { s with heap:=h',drawn:=dr }) :
  wpAny (model prog w) A (pyIter (.ref a)) Q E s:=by
 obtain ⟨o,es,ep,t,ho,ex,hd,el,mem,few,fit,hn,tab⟩:=hS
 have lt:a < s.heap.objs.size:=Heap.lt_size ho
 have strE:∀ e ∈ es.toList,∃ x tk,e.2=Value.str x tk:=fun e he=>by
  obtain ⟨⟨k,hk,_⟩,_⟩:=el e he
  have hk':Value.isStrOf k e.2=true:=hk
  cases z:e.2 <;> rw [z] at hk' <;> first | exact ⟨_,_,rfl⟩ | (simp [Value.isStrOf] at hk')
 have tx:∀ vs:List Value,vs.Perm (es.toList.map (·.2))->∃ ks,StrsAre vs ks/\(∀ k,S k=true ↔ k ∈ ks)/\ks.length=n:=fun vs pm=>by
  obtain ⟨ks,r⟩:=strs_all (vs:=vs) fun v hv=>by
   obtain ⟨e,he,rfl⟩:=List.mem_map.mp (pm.mem_iff.mp hv)
   exact strE e he
  refine ⟨ks,r,fun k=>?_,by rw [<-r.length,pm.length_eq,List.length_map,Array.length_toList]; exact hn⟩
  rw [mem,strs_mem (P:=prog) (w:=w) r]
  constructor
  ·rintro ⟨e,he,z⟩
   exact ⟨e.2,pm.mem_iff.mpr (List.mem_map.mpr ⟨e,he,rfl⟩),z⟩
  ·rintro ⟨v,hv,z⟩
   obtain ⟨e,he,rfl⟩:=List.mem_map.mp (pm.mem_iff.mp hv)
   exact ⟨e,he,z⟩
 have hT:s.TypeIs (.ref a) "set":=⟨o,ho,ex.1⟩
 refine wpAny_pyIter_slot hT F.slot_set_iter (wpAny_call_entry F.slot_set_iter hT entry_set_iter ?_ (F.args_set_iter_1 _))
 unfold Builtin.«frozenset.__iter__» Builtin.Frozenset.slot0 slotArgs
 simp only [List.isEmpty_nil,Bool.not_true,Bool.false_eq_true,↓reduceIte,bind_assoc,List.length_nil,bne_self_eq_false]
 unfold Builtin.Frozenset.addrOf Builtin.Frozenset.sizeOf
 refine wpAny_bind (wpAny_pure ?_)
 try dsimp only
 refine wpAny_bind (wpAny_pure ?_)
 refine wpAny_bind (wpAny_bind (wpAny_setEntries_of ho hd fit (wpAny_pure ?_)))
 refine wpAny_bind (set_drawn ho hd fit ?_)
 by_cases z:(!w.params.followText "set-order" && (!t.plain && decide (es.size > 1)))=true
 ·rw [if_pos z]
  refine wpAny_bind (draw_order es.size (List.range es.size) _ _ (by rw [List.length_range]) fun is dr pm=>?_)
  refine wpAny_bind (wpAny_newTuple ?_ (by rw [List.length_map,pm.length_eq,List.length_range]; exact fits_of_scanBound few))
  refine wpAny_bind (wpAny_setEpoch_of (Heap.get?_push_of_some _ ho) hd fit ?_)
  refine wpAny_bind (wpAny_newObj_type (wpAny_pure ⟨_,rfl,"set_iterator",_,⟨_,Heap.get?_push_size _ rfl,rfl⟩,slot_seti_next.lookup,?_⟩))
  have rng:∀ j ∈ is,j < es.size:=fun j hj=>List.mem_range.mp (pm.mem_iff.mp hj)
  have pv:(is.map fun j=>((es[j]?).map (·.2)).getD Value.none).Perm (es.toList.map (·.2)):=by
   refine (pm.map _).trans ?_
   refine List.Perm.of_eq (List.ext_getElem (by simp) fun i h1 h2=>?_)
   have:i < es.size:=by simpa using h2
   simp [this]
  obtain ⟨ks,r1,r2,r3⟩:=tx _ pv
  refine h _ dr _ [(s.heap.push (ordT is 0)).objs.size,a,s.heap.objs.size] _ ks _ (fun b o e=>Heap.get?_push_of_some _ (Heap.get?_push_of_some _ e)) (by rw [size_push']; exact Nat.le_succ _) (fun b hb=>?_) r1 r2 r3
   (fun B hB=>walk_drawn hB _ a s.heap.objs.size (by rw [size_push']; exact Nat.ne_of_lt (Nat.lt_succ_of_lt lt)) (by rw [size_push']; exact Nat.ne_of_lt (Nat.lt_succ_self _)) hd fit is _ (by simp) fun i v e=>?_)
   ⟨Heap.get?_push_size _ rfl,Heap.get?_push_of_some _ (Heap.get?_push_of_some _ ho),Heap.get?_push_of_some _ (Heap.get?_push_size _ rfl)⟩
  ·simp only [List.mem_cons,List.not_mem_nil,or_false] at hb
   rcases hb with rfl | rfl | rfl
   ·exact .inr (by rw [size_push']; exact Nat.le_succ _)
   ·exact .inl rfl
   ·exact .inr (Nat.le_refl _)
  ·rw [List.getElem?_map] at e
   cases ej:is[i]? with
   | none=>rw [ej] at e; cases e
   | some j=>
    rw [ej] at e
    have hj:=rng j (List.mem_of_getElem? ej)
    have e5:es[j]? = some es[j]:=by simp [hj]
    simp only [Option.map_some,e5,Option.getD_some,Option.some.injEq] at e
    exact ⟨j,es[j].1,rfl,by rw [e5,<-e]⟩
 ·rw [if_neg z]
  refine wpAny_bind (wpAny_pure ?_)
  refine wpAny_bind (wpAny_setEpoch_of ho hd fit ?_)
  refine wpAny_bind (wpAny_newObj_type (wpAny_pure ⟨_,rfl,"set_iterator",_,⟨_,Heap.get?_push_size _ rfl,rfl⟩,slot_seti_next.lookup,?_⟩))
  have few1:w.params.followText "set-order"=false->es.size<=1:=fun q=>by
   rcases Nat.lt_or_ge 1 es.size with y | y
   ·rw [q,tab.2 (by (first|lia|omega))] at z
    simp [y] at z
   ·exact y
  have go:∀ (vs:List Value) (sl:Nat->Nat),sl 0=0->vs.Perm (es.toList.map (·.2))->(∀ (i:Nat) (v:Value),vs[i]? = some v->stepOf w a es ep t (sl i) i=some (v,sl (i + 1)))->stepOf w a es ep t (sl vs.length) vs.length=none ->
    Q (.ref s.heap.objs.size) { s with heap:=s.heap.push (setIt (rawInt 0) 0 a es.size ep) }:=fun vs sl s0 pm h1 h2=>by
   obtain ⟨ks,r1,r2,r3⟩:=tx _ pm
   refine h _ s.drawn _ [s.heap.objs.size,a] vs ks _ (fun b o e=>Heap.get?_push_of_some _ e) (Nat.le_refl _) (fun b hb=>?_) r1 r2 r3 (fun B hB=>walk_plain hB _ a (Nat.ne_of_lt lt) hd fit tab few1 vs sl h1 h2) ⟨?_,Heap.get?_push_of_some _ ho⟩
   ·simp only [List.mem_cons,List.not_mem_nil,or_false] at hb
    rcases hb with rfl | rfl
    ·exact .inr (Nat.le_refl _)
    ·exact .inl rfl
   ·rw [s0]; exact Heap.get?_push_size _ rfl
  by_cases ft:w.params.followText "set-order"=true
  ·refine go ((pickOrder (w.params.setOrder a ep) es).toList.map (·.2)) (fun _=>0) rfl ((pick_perm _ es).map _) (fun i v e=>?_) ?_
   ·unfold stepOf
    rw [if_pos ft]
    rw [List.getElem?_map,Array.getElem?_toList] at e
    cases y:(pickOrder (w.params.setOrder a ep) es)[i]? with
    | none=>rw [y] at e; cases e
    | some x=>rw [y] at e; cases e; rfl
   ·unfold stepOf
    rw [if_pos ft]
    simp
  ·have sm:=few1 (by simpa using ft)
   refine go (es.toList.map (·.2)) (fun i=>if i=0 then 0 else t.place.getD 0 0 + 1) rfl (.refl _) (fun i v e=>?_) ?_
   ·unfold stepOf
    rw [if_neg ft]
    have i0:i < es.size:=by
     have:=(List.getElem?_eq_some_iff.mp e).1
     simpa using this
    have z1:es.size=1:=by (first|lia|omega)
    have i1:i=0:=by (first|lia|omega)
    subst i1
    obtain ⟨x,rfl⟩:∃ x,es=#[x]:=⟨es[0],Array.ext (by simpa using z1) fun j a1 a2=>by
     have:j=0:=by (first|lia|omega)
     subst this; rfl⟩
    have pz:t.place.size=1:=by
     simp only [SetTable.fits,Bool.and_eq_true,beq_iff_eq] at fit
     exact fit.1
    obtain ⟨y,ey⟩:∃ y,t.place=#[y]:=⟨t.place[0],Array.ext (by simpa using pz) fun j a1 a2=>by
     have:j=0:=by (first|lia|omega)
     subst this; rfl⟩
    rw [ey]
    simp at e
    subst e
    rfl
   ·unfold stepOf
    rw [if_neg ft]
    rcases Nat.eq_zero_or_pos es.size with z0 | z0
    ·have:es=#[]:=Array.eq_empty_of_size_eq_zero z0
     subst this
     rfl
    ·have z1:es.size=1:=by (first|lia|omega)
     obtain ⟨x,rfl⟩:∃ x,es=#[x]:=⟨es[0],Array.ext (by simpa using z1) fun j a1 a2=>by
      have:j=0:=by (first|lia|omega)
      subst this; rfl⟩
     have pz:t.place.size=1:=by
      simp only [SetTable.fits,Bool.and_eq_true,beq_iff_eq] at fit
      exact fit.1
     obtain ⟨y,ey⟩:∃ y,t.place=#[y]:=⟨t.place[0],Array.ext (by simpa using pz) fun j a1 a2=>by
      have:j=0:=by (first|lia|omega)
      subst this; rfl⟩
     rw [ey]
     simp [SetTable.below,SetTable.below.go]
end
end L2
namespace L2
open PySem PySem.Spec PyProof.Rows
section
variable {prog:Program} {w:World} {A:Around} {E:Value->Shared->Prop} {s:Shared}
theorem set_hint {r:Addr} {Q:Bool->Shared->Prop} (hT:s.TypeIs (.ref r) "set") (h:∀ b,Q b s):wpAny (model prog w) A (Builtin.List.listLengthHint (.ref r)) Q E s:=by
 unfold Builtin.List.listLengthHint
 refine wpAny_bind (wpAny_specialOf hT PySem.F.slot_set_len.lookup ?_)
 generalize hid:("set.__len__":String)=id0
 wp_delta
 rw [show splitId id0=some ("set","__len__") from by subst hid; decide +kernel]
 subst hid
 refine wpAny_bind (wpAny_isInstance (T:="set") (b:=true) hT (by rw [isSubtype_type]; kernel_rfl) ?_)
 refine wpAny_ite_split (fun z=>absurd z (by decide)) (fun _=>?_)
 refine wpAny_ite_split (fun _=>?_) (fun z=>absurd (by decide +kernel) z)
 refine wpAny_bind (wpAny_typeOf hT ?_)
 exact wpAny_pure (h _)
theorem setT_collect {a:Addr} {S:Str->Bool} {n:Nat} {R:List Value->Shared->Prop} (hh:A.handled=none) (hS:SetT prog w s.heap a S n)
  (h:∀ (h':Heap) (tk:Nat) (dr:Drawn) (vs:List Value) (ks:List Str),(∀ b o,s.heap.get? b=some o->h'.get? b=some o)->StrsAre vs ks->(∀ k,S k=true ↔ k ∈ ks)->ks.length=n->R vs { s with heap:=h',toks:=tk,drawn:=dr }) :
  wpAny (model prog w) A (collect (.ref a)) R E s:=by
 have hn:n < scanBound:=by obtain ⟨o,es,ep,t,ho,ex,hd,el,mem,few,fit,hn,tab⟩:=hS; (first|lia|omega)
 have hn2:n<=sizeLine:=fits_of_scanBound hn
 have lt:a < s.heap.objs.size:=by obtain ⟨o,es,ep,t,ho,r⟩:=hS; exact Heap.lt_size ho
 unfold collect
 refine wpAny_bind (wpAny_runValue (codeAny_builtin entry_proto_collect' ?_))
 rw [Around.under_plainId PySem.F.plain_proto_collect _]
 show wpAny _ A.in1 (newList [] >>= fun l=>again (.builtin "list.__iadd__" ⟨[l,.ref a],[]⟩)) _ _ s
 refine wpAny_bind (wpAny_newObj_type ?_)
 refine wpAny_pure ⟨plainId_quiet PySem.F.plain_list_iadd _,codeAny_builtin entry_list_iadd' ?_⟩
 rw [Around.under_plainId PySem.F.plain_list_iadd _]
 have e1:(s.heap.push { cls:=.type "list",data:=.seq ([]:List Value).toArray }).get? s.heap.objs.size=some { cls:=.type "list",data:=.seq #[] }:=Heap.get?_push_size _ rfl
 show wpAny _ A.in1 (Builtin.List.listExtendWith (.ref s.heap.objs.size) (.ref a) (.ref s.heap.objs.size)) _ _ _
 have hS1:SetT prog w (s.heap.push { cls:=.type "list",data:=.seq ([]:List Value).toArray }) a S n:=hS.kept fun o e=>Heap.get?_push_of_some _ e
 unfold Builtin.List.listExtendWith
 have hT:Shared.TypeIs { s with heap:=s.heap.push { cls:=.type "list",data:=.seq ([]:List Value).toArray } } (.ref a) "set":=by
  obtain ⟨o,es,ep,t,ho,ex,r⟩:=hS1
  exact ⟨o,ho,ex.1⟩
 refine wpAny_bind (wpAny_typeOf hT ?_)
 have e2:Builtin.List.listSameRef (.ref s.heap.objs.size) (.ref a)=false:=by simp [Builtin.List.listSameRef,Nat.ne_of_gt lt]
 have e3:(Value.type "set" == Value.type "list")=false:=by decide
 have e4:(Value.type "set" == Value.type "tuple")=false:=by decide
 simp only [e2,e3,e4,Bool.or_false,Bool.false_eq_true,if_false]
 refine wpAny_bind (setT_iter hS1 fun h1 dr I fp vs ks St kk hI hfp sv mem len hW st=>?_)
 have k1:∀ b o,s.heap.get? b=some o->h1.get? b=some o:=fun b o e=>kk b o (Heap.get?_push_of_some _ e)
 have eS:=kk _ _ e1
 have hT1:Shared.TypeIs { s with heap:=h1,drawn:=dr } (.ref a) "set":=by
  obtain ⟨o,es,ep,t,ho,ex,r⟩:=hS
  exact ⟨o,k1 _ _ ho,ex.1⟩
 have szI:(s.heap.push { cls:=.type "list",data:=.seq ([]:List Value).toArray }).objs.size=s.heap.objs.size + 1:=size_push' ..
 have nf:s.heap.objs.size ∉ fp:=fun z=>by
  rcases hfp _ z with e | e
  ·exact absurd e (Nat.ne_of_gt lt)
  ·rw [szI] at e; exact absurd e (Nat.not_le_of_lt (Nat.lt_succ_self _))
 have vl:vs.length=n:=by rw [sv.length]; exact len
 have key:∀ (h2:Heap) (c tk:Nat),St 0 h2->(∀ b o,b ≠ s.heap.objs.size->h1.get? b=some o->h2.get? b=some o)->h2.get? s.heap.objs.size=some { cls:=.type "list",data:=.seq #[] c } ->
   codeAny (model prog w) A (.builtin "list.extend.loop" ⟨[.ref s.heap.objs.size,.ref I,.ref s.heap.objs.size],[]⟩) (fun (q:Result) (s':Shared)=>∃ (h':Heap) (tk:Nat) (acc:Array Value) (c':Nat),q=.ok (.ret (.ref s.heap.objs.size))/\s' = { s with heap:=h',toks:=tk,drawn:=dr } /\
    (∀ b o,s.heap.get? b=some o->h'.get? b=some o)/\h'.get? s.heap.objs.size=some { cls:=.type "list",dict:=none,data:=.seq acc c',slots:=#[] }/\ItemsOf (fun i v=>vs[i]? = some v) acc vs.length) { s with heap:=h2,toks:=tk,drawn:=dr }:=by
  intro h2 c tk st2 k2 g2
  refine codeAny_extend_loopS (hW _ (by simp [hh])).toS (by rw [vl]; exact hn2) s.heap.objs.size nf (.ref s.heap.objs.size) vs.length 0 _ #[] c rfl (Nat.zero_le _) st2 g2 (ItemsOf.nil _) fun s' acc c' m g' ia=>?_
  refine ⟨s'.heap,s'.toks,acc,c',rfl,?_,fun b o e=>?_,g',ia⟩
  ·rw [Moved.eq_with m]
  ·have lb:=Heap.lt_size e
   refine m.heap b o (fun z=>?_) (k2 b o (Nat.ne_of_lt lb) (k1 b o e))
   rcases List.mem_cons.mp z with y | y
   ·exact Nat.ne_of_lt lb y
   ·rw [List.mem_singleton.mp y] at lb
    rw [szI] at hI
    exact absurd lb (Nat.not_lt_of_le (Nat.le_of_succ_le hI))
 refine wpAny_mono (Q:=fun fin s'=>match fin with | .done f=>False | .again c'=>c'.quiet=true/\codeAny (model prog w) A c' (fun (q:Result) (s':Shared)=>∃ (h':Heap) (tk:Nat) (acc:Array Value) (c':Nat),q=.ok (.ret (.ref s.heap.objs.size))/\s' = { s with heap:=h',toks:=tk,drawn:=dr } /\
    (∀ b o,s.heap.get? b=some o->h'.get? b=some o)/\h'.get? s.heap.objs.size=some { cls:=.type "list",dict:=none,data:=.seq acc c',slots:=#[] }/\ItemsOf (fun i v=>vs[i]? = some v) acc vs.length) s') (E:=fun _ _=>False) ?_ (fun fin s' x=>?_) fun e s' x=>x.elim
 ·refine wpAny_bind (wpAny_holding (set_hint hT1 fun b=>?_))
  refine wpAny_ite_split (fun _=>?_) (fun _=>wpAny_pure ⟨plainId_quiet PySem.F.plain_extend_loop _,key _ _ _ st (fun b o _ e=>e) eS⟩)
  refine wpAny_bind (wpAny_rule ?_)
  refine wpAny_bind ?_
  show wpAny _ _ (updateSeq s.heap.objs.size (·.push .none) >>= fun _=>updateSeq s.heap.objs.size (·.pop)) _ _ _
  refine wpAny_bind (wpAny_updateSeq eS rfl ?_)
  have eS2:=Heap.get?_update_self (Obj.mapSeq (·.push Value.none)) eS rfl
  refine wpAny_updateSeq (hz:=by seq_fits) eS2 rfl ?_
  have eS3:=Heap.get?_update_self (Obj.mapSeq (·.pop)) eS2 rfl
  have oth:∀ b o,b ≠ s.heap.objs.size->h1.get? b=some o->((h1.update s.heap.objs.size (Obj.mapSeq (·.push Value.none))).update s.heap.objs.size (Obj.mapSeq (·.pop))).get? b=some o:=fun b o hb e=>
   (Heap.get?_update_other _ _ (Ne.symm hb)).trans ((Heap.get?_update_other _ _ (Ne.symm hb)).trans e)
  refine wpAny_pure ⟨plainId_quiet PySem.F.plain_extend_loop _,key _ _ _ ?_ oth eS3⟩
  exact (hW A (by simp [hh])).frame 0 _ _ st fun b hb o e=>oth b o (fun z=>nf (z ▸ hb)) e
 ·cases fin with
  | done f=>exact x.elim
  | again c₁=>
   refine ⟨x.1,codeAny_mono x.2 fun q s₂ y=>?_⟩
   obtain ⟨h',tk,acc,c',rfl,rfl,hk,hS',ia⟩:=y
   show wpAny _ A (load s.heap.objs.size >>= _) _ _ _
   refine wpAny_bind (wpAny_load hS' ?_)
   have:acc.toList=vs:=List.ext_getElem (by rw [Array.length_toList]; exact ia.1) fun i h1 h2=>by
    have h3:i < acc.size:=by simpa using h1
    have this:vs[i]? = some acc[i]:=ia.2 i acc[i] (by simp [h3])
    rw [List.getElem?_eq_getElem h2] at this
    simpa using (Option.some.inj this).symm
   refine wpAny_pure ?_
   have q:=h h' tk dr vs ks hk sv mem len
   rw [<-this] at q
   exact q
theorem sorted_setT {a:Addr} {S:Str->Bool} {n:Nat} {Q:Value->Shared->Prop} (hh:A.handled=none) (hS:SetT prog w s.heap a S n) (h64:n < 64)
  (h:∀ (h':Heap) (tk:Nat) (dr:Drawn) (l:Addr) (us:List Value) (e:Nat) (ss ks:List Str),(∀ b o,s.heap.get? b=some o->h'.get? b=some o)->s.heap.get? l=none->h'.get? l=some (seqObj "list" us.toArray e)->StrsAre us ss->ss.Perm ks->sortedS ss=true ->
   (∀ k,S k=true ↔ k ∈ ks)->ks.length=n->Q (.ref l) { s with heap:=h',toks:=tk,drawn:=dr }) :
  wpAny (model prog w) A (call (.builtin "sorted") [.ref a]) Q E s:=by
 refine Calls.call_function_entry kind_sorted plain_sorted entry_sorted (args_sorted1 _) ?_
 unfold Builtin.«sorted»
 refine wpAny_bind (m:=checkCount "sorted" 1 1 _) (wpAny_pure ?_)
 refine wpAny_bind (setT_collect (A:=A.in1) hh hS fun h' tk dr vs ks hk sv mem len=>?_)
 have hl:vs.length=n:=by rw [sv.length]; exact len
 refine wpAny_bind (wpAny_newList ?_ (Nat.le_trans (show vs.length<=64 by (first|lia|omega)) (by decide)))
 have g:(h'.push (seqObj "list" vs.toArray 0)).get? h'.objs.size=some (seqObj "list" vs.toArray 0):=Heap.get?_push_size _ rfl
 show wpAny _ _ _ _ _ { s with heap:=h'.push (seqObj "list" vs.toArray 0),toks:=tk,drawn:=dr }
 refine wpAny_bind (wpAny_holding (wpAny_call_entry slot_list_sort ⟨_,g,rfl⟩ entry_list_sort (list_sort_treeK strKind_oneLt (s:={ s with heap:=h'.push (seqObj "list" vs.toArray 0),toks:=tk,drawn:=dr }) g sv.keysOf (fun v₁ v₂ rest e=>keyKind_strs (by rw [<-e]; exact sv)) (by rw [hl]; exact h64) fun st' a1 a2=>⟨_,rfl,?_⟩) (args_list_sort _)))
 refine wpAny_pure ⟨_,rfl,?_⟩
 obtain ⟨ss,b1,b2,b3⟩:=sorted_out_str sv a1 a2
 obtain ⟨e,he⟩:=sortedHeap_at (out:=(arrOf st').map (·.2)) g
 refine h _ tk dr h'.objs.size ((arrOf st').map (·.2)).toList e ss ks (fun b o q=>?_) ?_ (by rw [Array.toArray_toList]; exact he) b1 b2 b3 mem len
 ·have q':=hk b o q
  have lt:=Heap.lt_size q'
  rw [sortedHeap_old (Nat.ne_of_lt lt) (by rw [size_push']; exact Nat.lt_succ_of_lt lt)]
  exact Heap.get?_push_of_some _ q'
 ·cases z:s.heap.get? h'.objs.size with
  | none=>rfl
  | some o=>exact absurd (Heap.lt_size (hk _ _ z)) (Nat.lt_irrefl _)
end
end L2
namespace L2
open PySem PySem.Spec PyProof.Rows
def SetW (P:Program) (w:World) (a:Addr) (S:Str->Bool) (n:Nat):HO:=.ext fun h=>SetT P w h a S n
theorem sub_tuple_set:isSubtype (.type "tuple") (.type "set")=pure false:=by rw [isSubtype_type]; kernel_rfl
theorem sub_tuple_frozenset:isSubtype (.type "tuple") (.type "frozenset")=pure false:=by rw [isSubtype_type]; kernel_rfl
def setS (P:Program) (w:World) (a:Addr) (ss:List Str):HO:=SetW P w a (fun k=>(ss.foldl step_dedup []).any (· == k)) (ss.foldl step_dedup []).length
theorem setW_ok {X:Cx} {pins:List (Addr × Obj)} {σ:St} {H:Hp} {s:Shared} (I:Inv X pins σ H s) {h':Heap} {tk:Nat} {ss:List Str} (hS:SetT X.prog X.w h' s.heap.objs.size (fun k=>(ss.foldl step_dedup []).any (· == k)) (ss.foldl step_dedup []).length)
  (kk:∀ b o,s.heap.get? b=some o->h'.get? b=some o):Inv X pins σ (upd H s.heap.objs.size (setS X.prog X.w s.heap.objs.size ss)) { s with heap:=h',toks:=tk }:=by
 obtain ⟨oS,e1,e2,e3,hoS,rest⟩:=id hS
 refine I.laid (a:=s.heap.objs.size) (o:=setS X.prog X.w s.heap.objs.size ss) (t':=tk) kk (Nat.le_refl _) ⟨hS,⟨_,hoS⟩,fun h1 h2 z st=>?_⟩
 exact z.kept fun o e=>st _ e
theorem call_set_of (K:PySem.W.Frag) {X:Cx} (hK:X.K=K) (hc:X.calm=true):CallR X (.type "set") (fun xs H Q=>∃ (a:Addr) (ss:List Str),xs=[.ref a]/\(SqL K H a (ss.map V.str)\/SqT K H a (ss.map V.str))/\ss.length<=1000 /\
  ∀ D,H D=none->Q (.ref D) (upd H D (setS X.prog X.w D ss))):=by
 subst hK
 intro pins s σ H xs us Q I r h
 obtain ⟨a,ss,rfl,ha,hl,q⟩:=h
 obtain ⟨u,rfl,ru⟩:=vals1 r
 cases ru
 have txt:∀ its:List Value,Vals (ss.map V.str) its->∀ (i:Nat) v,its.toArray[i]? = some v->∃ tk,v=.str (ss.getD i (Str.ofString "")) tk:=fun its rv i v e=>by
  have il:its.length=ss.length:=by rw [<-rv.length,List.length_map]
  have e':its[i]? = some v:=by simpa using e
  have hi:i < its.length:=(List.getElem?_eq_some_iff.mp e').1
  have e3:(ss.map V.str)[i]? = some (.str ss[i]):=by rw [List.getElem?_map,List.getElem?_eq_getElem (by (first|lia|omega))]; rfl
  obtain ⟨v',e4,r4⟩:=rv.get e3
  rw [e'] at e4
  cases e4
  obtain ⟨t,rfl⟩:=r4
  exact ⟨t,by simp [List.getD_eq_getElem?_getD,List.getElem?_eq_getElem (show i < ss.length by (first|lia|omega))]⟩
 have fin:∀ its:List Value,Vals (ss.map V.str) its->∀ (h':Heap) (tk:Nat),SetT X.prog X.w h' s.heap.objs.size (fun k'=>(met (fun i=>ss.getD i (Str.ofString "")) its.toArray.size).any (· == k')) (met (fun i=>ss.getD i (Str.ofString "")) its.toArray.size).length ->
   (∀ b o,s.heap.get? b=some o->h'.get? b=some o)->∃ v H',Inv X pins σ H' { s with heap:=h',toks:=tk }/\RelV v (.ref s.heap.objs.size)/\Q v H':=fun its rv h' tk hS kk=>by
  have es:its.toArray.size=ss.length:=by rw [List.size_toArray,<-rv.length,List.length_map]
  rw [es,met_list] at hS
  exact ⟨.ref s.heap.objs.size,_,setW_ok I hS kk,rfl,q _ (I.hok.fresh (Nat.le_refl _))⟩
 have bnd:∀ its:List Value,Vals (ss.map V.str) its->its.toArray.size + 1 < scanBound:=fun its rv=>by
  rw [List.size_toArray,<-rv.length,List.length_map]
  unfold scanBound
  (first|lia|omega)
 rcases ha with ha | ha
 ·obtain ⟨its,rv,pl,hz⟩:=I.list ha
  have il:=pl.isList
  obtain ⟨o,ho,hcl,n,hdat⟩:=id il
  refine setT_of (items:=its.toArray) (val:=fun i=>ss.getD i (Str.ofString "")) (St:=fun I' i h=>h.IsListIter I' a i/\h.IsList a its.toArray) (I.ok.hd hc) ho hcl (by decide) F.sub_list_set F.sub_list_frozenset
   (fun B E' s1 Q' k q'=>wpAny_pyIter_list ⟨o,k _ _ ho,hcl,n,hdat⟩ q') (fun B I' hB ne=>Walks.list hB I' a ne its.toArray) (fun h k=>⟨⟨_,Heap.get?_push_size _ rfl,rfl,rfl⟩,⟨o,Heap.get?_push_of_some _ (k _ _ ho),hcl,n,hdat⟩⟩) (txt its rv) (bnd its rv) fun h' tk hS kk=>?_
  exact fin its rv h' tk hS kk
 ·obtain ⟨its,rv,pl,hz⟩:=I.tuple ha
  obtain ⟨o,ho,hcl,n,hdat⟩:=id pl
  refine setT_of (items:=its.toArray) (val:=fun i=>ss.getD i (Str.ofString "")) (St:=fun I' i h=>h.IsTupleIter I' a i/\h.IsTuple a its.toArray) (I.ok.hd hc) ho hcl (by decide) sub_tuple_set sub_tuple_frozenset
   (fun B E' s1 Q' k q'=>wpAny_pyIter_tuple ⟨o,k _ _ ho,hcl,n,hdat⟩ q') (fun B I' hB ne=>Walks.tuple hB I' a ne its.toArray) (fun h k=>⟨⟨_,Heap.get?_push_size _ rfl,rfl,rfl⟩,⟨o,Heap.get?_push_of_some _ (k _ _ ho),hcl,n,hdat⟩⟩) (txt its rv) (bnd its rv) fun h' tk hS kk=>?_
  exact fin its rv h' tk hS kk
theorem dedupS_mem (k:Str):∀ (ss σ:List Str),k ∈ ss.foldl step_dedup σ ↔ k ∈ σ\/k ∈ ss
 | [],σ=>by simp
 | x :: xs,σ=>by
  rw [List.foldl_cons,dedupS_mem k xs]
  have:k ∈ step_dedup σ x ↔ k ∈ σ\/k=x:=by
   unfold step_dedup
   split
   ·rename_i h
    rw [List.any_eq_true] at h
    obtain ⟨y,hy,e⟩:=h
    have e:=eq_of_beq e
    subst e
    exact ⟨.inl,fun z=>z.elim id fun e=>e ▸ hy⟩
   ·simp
  rw [this,List.mem_cons]
  exact or_assoc
theorem dedupS_nodup:∀ (ss σ:List Str),σ.Nodup->(ss.foldl step_dedup σ).Nodup
 | [],σ,h=>h
 | x :: xs,σ,h=>by
  rw [List.foldl_cons]
  refine dedupS_nodup xs _ ?_
  unfold step_dedup
  split
  ·exact h
  ·rename_i hn
   refine List.nodup_append.mpr ⟨h,by simp,fun a ha b hb e=>hn ?_⟩
   rw [List.mem_singleton] at hb
   subst hb e
   exact List.any_eq_true.mpr ⟨_,ha,by simp⟩
theorem perm_sub:∀ {l m:List Str},l.Nodup->(∀ x ∈ l,x ∈ m)->∃ r,m.Perm (l ++ r)
 | [],m,_,_=>⟨m,.refl _⟩
 | x :: l,m,nd,h=>by
  rw [List.nodup_cons] at nd
  have p:=List.perm_cons_erase (h x (by simp))
  obtain ⟨r,pr⟩:=perm_sub (m:=m.erase x) nd.2 fun y hy=>(List.mem_erase_of_ne (fun e:y=x=>nd.1 (e ▸ hy))).mpr (h y (List.mem_cons_of_mem _ hy))
  exact ⟨r,p.trans (pr.cons _)⟩
theorem perm_len {l m:List Str} (nd:l.Nodup) (h:∀ x ∈ l,x ∈ m) (e:m.length=l.length):m.Perm l:=by
 obtain ⟨r,p⟩:=perm_sub nd h
 have:=p.length_eq
 rw [List.length_append] at this
 have:r=[]:=List.length_eq_zero_iff.mp (by (first|lia|omega))
 subst this
 simpa using p
theorem Inv.drew {X:Cx} {pins:List (Addr × Obj)} {σ:St} {H:Hp} {s:Shared} (I:Inv X pins σ H s) (dr:Drawn):Inv X pins σ H { s with drawn:=dr }:=
 ⟨I.ok,I.os,I.bare,I.base,I.loc,I.cell,I.free,I.freeC,I.pin,I.hok,I.len⟩
theorem call_sorted_set {X:Cx} (hc:X.calm=true):CallR X (.builtin "sorted") (fun xs H Q=>∃ (a:Addr) (ss:List Str),xs=[.ref a]/\H a=some (setS X.prog X.w a ss)/\ss.length < 64 /\
  ∀ (l:Addr) (ss':List Str),H l=none->ss'.Nodup->(∀ k,k ∈ ss' ↔ k ∈ ss)->sortedS ss'=true->Q (.ref l) (upd H l (.lst (ss'.map V.str)))):=by
 intro pins s σ H xs us Q I r h
 obtain ⟨a,ss,rfl,ha,h64,q⟩:=h
 obtain ⟨u,rfl,ru⟩:=vals1 r
 cases ru
 have hS:SetT X.prog X.w s.heap a (fun k=>(ss.foldl step_dedup []).any (· == k)) (ss.foldl step_dedup []).length:=(I.hok a _ ha).1
 have few:(ss.foldl step_dedup []).length<=ss.length:=by rw [<-met_list]; exact met_length_le _ _
 refine sorted_setT (I.ok.hd hc) hS (by (first|lia|omega)) fun h' tk dr l us e ss' ks k1 k2 k3 k4 k5 k6 k7 k8=>?_
 obtain ⟨m,hlm⟩:=id I.loc
 obtain ⟨oL,esL,epL,hoL,rL⟩:=id hlm.1
 have fl:H l=none:=by
  cases z:H l with
  | none=>rfl
  | some u=>
   obtain ⟨ob,e⟩:=ObjOk.there (I.hok l u z)
   rw [k2] at e
   cases e
 have mk:∀ k,k ∈ ks ↔ k ∈ ss:=fun k=>by
  rw [<-k7,List.any_eq_true]
  have:=dedupS_mem k ss []
  constructor
  ·rintro ⟨x,hx,e⟩
   have e:=eq_of_beq e
   subst e
   exact (this.mp hx).resolve_left (by simp)
  ·intro z
   exact ⟨k,this.mpr (.inr z),by simp⟩
 have pm:ks.Perm (ss.foldl step_dedup []):=perm_len (dedupS_nodup ss [] List.nodup_nil) (fun x hx=>(mk x).mpr (((dedupS_mem x ss []).mp hx).resolve_left (by simp))) k8
 have I2:=I.laidF (h2:=h') (D:=l) (o:=.lst (ss'.map V.str)) hlm ⟨oL,esL,epL,k1 _ _ hoL,rL⟩ (fun b ob _ q=>k1 b ob q) k2 (fun z=>by rw [z,hoL] at k2; cases k2)
  ⟨by rw [List.length_map,k5.length_eq,k8,sizeLine_eq]; (first|lia|omega),us,e,of_strs k4,k3⟩
 exact ⟨.ref l,_,(I2.kept (t':=tk) fun b u q=>q).drew dr,rfl,q l ss' fl (k5.nodup_iff.mpr (pm.nodup_iff.mpr (dedupS_nodup ss [] List.nodup_nil))) (fun k=>k5.mem_iff.trans (mk k)) k6⟩
end L2
namespace L2
open PySem PySem.W PyProof.Rows
section
variable {prog:Program} {w:World} {A:Around} {E:Value->Shared->Prop} {s:Shared} {κ:SortKind} {lt:Keyed->Keyed->Bool} {a0:Array Keyed}
theorem wpS_narrowP {ρ:Type} {body:Nat->Option ρ × Nat × Nat->StateT SortSt Sem (ForInStep (Option ρ × Nat × Nat))} {n lo hi:Nat} {st:SortSt}
  (hs:∀ x l (R:ForInStep (Option ρ × Nat × Nat)->SortSt->Prop),R (.done (none,l,l)) st->wpS (model prog w) A E s (body x (none,l,l)) R st)
  (hg:∀ x l r (R:ForInStep (Option ρ × Nat × Nat)->SortSt->Prop),l < r->r<=n ->
   (R (.yield (none,l + (r - l) / 2 + 1,r)) st)->(R (.yield (none,l,l + (r - l) / 2)) st)->wpS (model prog w) A E s (body x (none,l,r)) R st)
  (hl:lo<=hi) (hn:hi<=n) :
  wpS (model prog w) A E s (forIn [0:n] (none,lo,hi) body) (fun c st'=>st'=st/\∃ r,c=(none,r,r)/\r<=n) st:=by
 refine wpS_forRange (I:=fun x c st'=>st'=st/\∃ l r,c=(none,l,r)/\l<=r/\r<=n/\r - l<=n - x) ?_ ?_ ⟨rfl,lo,hi,rfl,hl,hn,by (first|lia|omega)⟩
 ·rintro x c st' _ hx ⟨rfl,l,r,rfl,q1,q2,q3⟩
  by_cases hlr:l < r
  ·exact hg _ _ _ _ hlr q2 ⟨rfl,_,r,rfl,by (first|lia|omega),by (first|lia|omega),by (first|lia|omega)⟩ ⟨rfl,l,_,rfl,by (first|lia|omega),by (first|lia|omega),by (first|lia|omega)⟩
  ·have:l=r:=by (first|lia|omega)
   subst this
   exact hs _ _ _ ⟨rfl,l,rfl,q2⟩
 ·rintro c st' ⟨rfl,l,r,rfl,q1,q2,q3⟩
  have:l=r:=by (first|lia|omega)
  subst this
  exact ⟨rfl,l,rfl,q2⟩
theorem wpS_gallopP {left:Bool} {key:Keyed} {arr:Array Keyed} {base n hint:Nat} {Q:Option Nat->SortSt->Prop} {st:SortSt} (an:Ans prog w A s κ lt a0) (hk:kindOf st=κ)
  (hkey:key ∈ a0) (harr:∀ i,i < n->itA arr (base + i) ∈ a0) (hb:base + n<=arr.size) (hh:hint < n)
  (h:∀ k,k<=n->Q (some k) st) :
  wpS (model prog w) A E s (gallopG left key arr base n hint) Q st:=by
 have ha:∀ i (R:Option Bool->SortSt->Prop),i < n->R (some (byd lt left key (itA arr (base + i)))) st->wpS (model prog w) A E s (askG left key arr base i) R st:=
  fun i R hi hr=>wpS_askG an hk hkey (harr i hi) (by (first|lia|omega)) hr
 refine wpS_bind (ha hint _ hh ?_)
 dsimp only
 cases e:byd lt left key (itA arr (base + hint))
 ·simp only [Bool.false_eq_true,if_false]
  refine wpS_bind (wpS_mono (wpS_forRange (I:=fun x c st'=>st'=st/\∃ l o,c=(none,l,o)/\l<=hint/\l < o/\x + 1<=o)
   (Q:=fun c st'=>st'=st/\∃ l o,c=(none,l,o)/\l<=hint/\l < o) ?_ ?_ ⟨rfl,0,1,rfl,by (first|lia|omega),by (first|lia|omega),by (first|lia|omega)⟩) ?_)
  ·rintro x c st' _ hx ⟨rfl,l,o,rfl,q1,q2,q3⟩
   dsimp only
   by_cases ho:o >= hint + 1
   ·rw [if_pos ho]
    exact wpS_pure ⟨rfl,l,o,rfl,q1,q2⟩
   ·rw [if_neg ho]
    refine wpS_bind (ha _ _ (by (first|lia|omega)) ?_)
    cases e2:byd lt left key (itA arr (base + (hint - o)))
    ·simp only [Bool.false_eq_true,if_false]
     exact wpS_pure ⟨rfl,o,_,rfl,by (first|lia|omega),by (first|lia|omega),by (first|lia|omega)⟩
    ·simp only [if_true]
     exact wpS_pure ⟨rfl,l,o,rfl,q1,q2⟩
  ·rintro c st' ⟨rfl,l,o,rfl,q1,q2,q3⟩
   exact ⟨rfl,l,o,rfl,q1,q2⟩
  ·rintro c st' ⟨rfl,l,o,rfl,q1,q2⟩
   dsimp only
   refine wpS_bind (wpS_mono (wpS_narrowP (n:=n) ?_ ?_ ?_ ?_) ?_)
   ·intro x l R hR
    dsimp only
    rw [if_pos (Nat.le_refl _)]
    exact wpS_pure hR
   ·intro x l r R hlr hrn y1 y2
    dsimp only
    rw [if_neg (by (first|lia|omega))]
    refine wpS_bind (ha _ _ (by (first|lia|omega)) ?_)
    cases e3:byd lt left key (itA arr (base + (l + (r - l) / 2)))
    ·exact wpS_pure y2
    ·exact wpS_pure y1
   ·(first|lia|omega)
   ·(first|lia|omega)
   ·rintro c st2 ⟨rfl,r,rfl,z1⟩
    exact wpS_pure (h r z1)
 ·simp only [if_true]
  refine wpS_bind (wpS_mono (wpS_forRange (I:=fun x c st'=>st'=st/\∃ l o,c=(none,l,o)/\hint + l < n/\l < o/\x + 1<=o)
   (Q:=fun c st'=>st'=st/\∃ l o,c=(none,l,o)/\hint + l < n/\l < o) ?_ ?_ ⟨rfl,0,1,rfl,by (first|lia|omega),by (first|lia|omega),by (first|lia|omega)⟩) ?_)
  ·rintro x c st' _ hx ⟨rfl,l,o,rfl,q1,q2,q3⟩
   dsimp only
   by_cases ho:o >= n - hint
   ·rw [if_pos ho]
    exact wpS_pure ⟨rfl,l,o,rfl,q1,q2⟩
   ·rw [if_neg ho]
    refine wpS_bind (ha _ _ (by (first|lia|omega)) ?_)
    cases e2:byd lt left key (itA arr (base + (hint + o)))
    ·simp only [Bool.not_false,if_true]
     exact wpS_pure ⟨rfl,l,o,rfl,q1,q2⟩
    ·simp only [Bool.not_true,Bool.false_eq_true,if_false]
     exact wpS_pure ⟨rfl,o,_,rfl,by (first|lia|omega),by (first|lia|omega),by (first|lia|omega)⟩
  ·rintro c st' ⟨rfl,l,o,rfl,q1,q2,q3⟩
   exact ⟨rfl,l,o,rfl,q1,q2⟩
  ·rintro c st' ⟨rfl,l,o,rfl,q1,q2⟩
   dsimp only
   refine wpS_bind (wpS_mono (wpS_narrowP (n:=n) ?_ ?_ ?_ ?_) ?_)
   ·intro x l R hR
    dsimp only
    rw [if_pos (Nat.le_refl _)]
    exact wpS_pure hR
   ·intro x l r R hlr hrn y1 y2
    dsimp only
    rw [if_neg (by (first|lia|omega))]
    refine wpS_bind (ha _ _ (by (first|lia|omega)) ?_)
    cases e3:byd lt left key (itA arr (base + (l + (r - l) / 2)))
    ·exact wpS_pure y2
    ·exact wpS_pure y1
   ·(first|lia|omega)
   ·(first|lia|omega)
   ·rintro c st2 ⟨rfl,r,rfl,z1⟩
    exact wpS_pure (h r z1)
structure MLp (a b out:Array Keyed) (ia ib:Nat):Prop where
 ml:(out.toList ++ (a.toList.drop ia ++ b.toList.drop ib)).Perm (a.toList ++ b.toList)
 ha:ia + 1 < a.size
 hb:ib < b.size
 sz:out.size=ia + ib
theorem pm_takeA {all out l ra rb:List Keyed} (h:(out ++ ((l ++ ra) ++ rb)).Perm all):((out ++ l) ++ (ra ++ rb)).Perm all:=by
 refine List.Perm.trans ?_ h
 simp
theorem pm_turn {all out ra rb:List Keyed} (h:(out ++ (ra ++ rb)).Perm all):(out ++ (rb ++ ra)).Perm all:=List.Perm.trans (List.Perm.append_left _ List.perm_append_comm) h
theorem pm_takeB {all out l ra rb:List Keyed} (h:(out ++ (ra ++ (l ++ rb))).Perm all):((out ++ l) ++ (ra ++ rb)).Perm all:=pm_turn (pm_takeA (pm_turn h))
theorem ph_turn {all out ra rb:List Keyed} (h:((ra ++ rb) ++ out).Perm all):((rb ++ ra) ++ out).Perm all:=List.Perm.trans (List.Perm.append_right _ List.perm_append_comm) h
theorem ph_takeB {all out l ra rb:List Keyed} (h:((ra ++ (rb ++ l)) ++ out).Perm all):((ra ++ rb) ++ (l ++ out)).Perm all:=by
 refine List.Perm.trans ?_ h
 simp
theorem ph_takeA {all out l ra rb:List Keyed} (h:(((ra ++ l) ++ rb) ++ out).Perm all):((ra ++ rb) ++ (l ++ out)).Perm all:=ph_turn (ph_takeB (ph_turn h))
theorem wpS_mergeLoP {a b:Array Keyed} {Q:Array Keyed->SortSt->Prop} {st:SortSt} (an:Ans prog w A s κ lt a0) (hk:kindOf st=κ)
  (ma:∀ i,i < a.size->itA a i ∈ a0) (mb:∀ i,i < b.size->itA b i ∈ a0) (na:0 < a.size) (nb:0 < b.size)
  (h:∀ (r:Array Keyed) g,r.toList.Perm (a.toList ++ b.toList)->Q r (setGal st g)):wpS (model prog w) A E s (mergeLoG a b) Q st:=by
 have start:((#[itA b 0]:Array Keyed).toList ++ (a.toList.drop 0 ++ b.toList.drop 1)).Perm (a.toList ++ b.toList):=by
  have e:b.toList.drop 0=[itA b 0] ++ b.toList.drop 1:=drop_itA nb
  have m0:([] ++ (a.toList.drop 0 ++ ([itA b 0] ++ b.toList.drop 1))).Perm (a.toList ++ b.toList):=by
   rw [<-e]
   exact List.Perm.refl _
  exact pm_takeB m0
 have lastA:∀ (out:Array Keyed) ia ib,(out.toList ++ (a.toList.drop ia ++ b.toList.drop ib)).Perm (a.toList ++ b.toList)->(out ++ b.extract ib ++ a.extract ia).toList.Perm (a.toList ++ b.toList):=by
  intro out ia ib m
  rw [Array.toList_append,Array.toList_append,extr_drop,extr_drop,List.append_assoc]
  exact pm_turn m
 have doneB:∀ (out:Array Keyed) ia ib,(out.toList ++ (a.toList.drop ia ++ b.toList.drop ib)).Perm (a.toList ++ b.toList)->(out ++ a.extract ia ++ b.extract ib).toList.Perm (a.toList ++ b.toList):=by
  intro out ia ib m
  rw [Array.toList_append,Array.toList_append,extr_drop,extr_drop,List.append_assoc]
  exact m
 have pushB:∀ (out:Array Keyed) ia ib,(out.toList ++ (a.toList.drop ia ++ b.toList.drop ib)).Perm (a.toList ++ b.toList)->ib < b.size->((out.push (itA b ib)).toList ++ (a.toList.drop ia ++ b.toList.drop (ib + 1))).Perm (a.toList ++ b.toList):=by
  intro out ia ib m hib
  rw [Array.toList_push]
  rw [drop_itA hib] at m
  exact pm_takeB (l:=[itA b ib]) m
 have pushA:∀ (out:Array Keyed) ia ib,(out.toList ++ (a.toList.drop ia ++ b.toList.drop ib)).Perm (a.toList ++ b.toList)->ia < a.size->((out.push (itA a ia)).toList ++ (a.toList.drop (ia + 1) ++ b.toList.drop ib)).Perm (a.toList ++ b.toList):=by
  intro out ia ib m hia
  rw [Array.toList_push]
  rw [drop_itA hia] at m
  exact pm_takeA (l:=[itA a ia]) m
 have partA:∀ (out:Array Keyed) ia ib k,(out.toList ++ (a.toList.drop ia ++ b.toList.drop ib)).Perm (a.toList ++ b.toList)->((out ++ a.extract ia (ia + k)).toList ++ (a.toList.drop (ia + k) ++ b.toList.drop ib)).Perm (a.toList ++ b.toList):=by
  intro out ia ib k m
  rw [Array.toList_append]
  rw [drop_part a ia k] at m
  exact pm_takeA m
 have partB:∀ (out:Array Keyed) ia ib k,(out.toList ++ (a.toList.drop ia ++ b.toList.drop ib)).Perm (a.toList ++ b.toList)->((out ++ b.extract ib (ib + k)).toList ++ (a.toList.drop ia ++ b.toList.drop (ib + k))).Perm (a.toList ++ b.toList):=by
  intro out ia ib k m
  rw [Array.toList_append]
  rw [drop_part b ib k] at m
  exact pm_takeB m
 refine wpS_bind (wpS_lift (wpAny_rule ⟨rfl,?_⟩))
 try dsimp -zeta only
 refine wpS_bind (wpS_elemG (i:=0) nb ?_)
 by_cases h1:b.size=1
 ·rw [if_pos (by simp [h1])]
  exact wpS_pure (h _ _ (doneB _ 0 1 start))
 rw [if_neg (by simpa using fun e=>h1 e.symm)]
 by_cases h2:a.size=1
 ·rw [if_pos (by simp [h2])]
  exact wpS_pure (h _ _ (lastA _ 0 1 start))
 rw [if_neg (by simpa using fun e=>h2 (by (first|lia|omega)))]
 refine wpS_bind (wpS_get ?_)
 refine wpS_bind (wpS_mono (wpS_forRange (I:=fun x c st'=>∃ out ia ib g g',c=(none,out,ia,ib,g)/\st'=setGal st g'/\MLp a b out ia ib/\x + 1<=out.size)
  (Q:=fun c st'=>∃ (r:Array Keyed) (g':Nat),c.1=some r/\st'=setGal st g'/\r.toList.Perm (a.toList ++ b.toList)) ?step ?fin ?init) ?post)
 case init=>exact ⟨_,0,1,_,_,rfl,rfl,⟨start,by (first|lia|omega),by (first|lia|omega),rfl⟩,by simp⟩
 case fin=>
  rintro c st' ⟨out,ia,ib,g,g',rfl,rfl,m,hx⟩
  have:=m.ha
  have:=m.hb
  have:=m.sz
  (first|lia|omega)
 case post=>
  rintro ⟨c,rest⟩ st' ⟨r,g',e,rfl,m⟩
  dsimp only at e
  subst e
  exact wpS_pure (h _ _ m)
 case step=>
  rintro x c st' _ hxs ⟨out,ia,ib,g,g',rfl,rfl,m,hx⟩
  try dsimp -zeta only
  refine wpS_bind (wpS_mono (wpS_forRange (I:=fun y c st'=>∃ out ia ib ac bc,c=(none,out,ia,ib,ac,bc)/\st'=setGal st g'/\MLp a b out ia ib/\x + y + 1<=out.size)
   (Q:=fun c st'=>st'=setGal st g'/\((∃ r:Array Keyed,c.1=some r/\r.toList.Perm (a.toList ++ b.toList))\/∃ out ia ib ac bc,c=(none,out,ia,ib,ac,bc)/\MLp a b out ia ib/\x + 2<=out.size)) ?istep ?ifin ?iinit) ?ipost)
  case iinit=>exact ⟨out,ia,ib,0,0,rfl,rfl,m,by (first|lia|omega)⟩
  case ifin=>
   rintro c st' ⟨out,ia,ib,ac,bc,rfl,rfl,m,hx⟩
   have:=m.ha
   have:=m.hb
   have:=m.sz
   (first|lia|omega)
  case istep=>
   rintro y c st' _ hy ⟨out,ia,ib,ac,bc,rfl,rfl,m,hx⟩
   try dsimp -zeta only
   have hia:=m.ha
   have hib:=m.hb
   have hsz:=m.sz
   refine wpS_bind (wpS_elemG hib (wpS_bind (wpS_elemG (by first | (first|lia|omega) | (dsimp only at *; (first|lia|omega))) ?_)))
   refine wpS_bind (wpS_ltG an hk (mb _ hib) (ma _ (by first | (first|lia|omega) | (dsimp only at *; (first|lia|omega)))) ?_)
   try dsimp -zeta only
   refine wpS_iteI (fun e=>?_) (fun e=>?_)
   ·refine wpS_bind (wpS_elemG hib ?_)
    have m2:=pushB out ia ib m.ml hib
    refine wpS_beqI (fun q1=>wpS_pure ⟨rfl,.inl ⟨_,rfl,doneB _ _ _ m2⟩⟩) fun q1=>?_
    ·have mm:MLp a b (out.push (itA b ib)) ia (ib + 1):=⟨m2,hia,by (first|lia|omega),by rw [Array.size_push]; (first|lia|omega)⟩
     refine wpS_iteI (fun _=>wpS_pure ⟨rfl,.inr ⟨_,_,_,_,_,rfl,mm,by rw [Array.size_push]; (first|lia|omega)⟩⟩) (fun _=>wpS_pure ⟨_,_,_,_,_,rfl,rfl,mm,by rw [Array.size_push]; (first|lia|omega)⟩)
   ·refine wpS_bind (wpS_elemG (by (first|lia|omega)) ?_)
    have m2:=pushA out ia ib m.ml (by (first|lia|omega))
    refine wpS_beqI (fun q1=>wpS_pure ⟨rfl,.inl ⟨_,rfl,lastA _ _ _ m2⟩⟩) fun q1=>?_
    ·have mm:MLp a b (out.push (itA a ia)) (ia + 1) ib:=⟨m2,by (first|lia|omega),hib,by rw [Array.size_push]; (first|lia|omega)⟩
     refine wpS_iteI (fun _=>wpS_pure ⟨rfl,.inr ⟨_,_,_,_,_,rfl,mm,by rw [Array.size_push]; (first|lia|omega)⟩⟩) (fun _=>wpS_pure ⟨_,_,_,_,_,rfl,rfl,mm,by rw [Array.size_push]; (first|lia|omega)⟩)
  case ipost=>
   rintro c st' ⟨rfl,hc⟩
   rcases hc with ⟨r,hc,hm⟩ | ⟨out,ia,ib,ac,bc,rfl,m,hx2⟩
   ·obtain ⟨c,rest⟩:=c
    dsimp only at hc
    subst hc
    exact wpS_pure ⟨r,g',rfl,rfl,hm⟩
   ·try dsimp -zeta only
    refine wpS_bind (wpS_lift (wpAny_rule ⟨rfl,?_⟩))
    refine wpS_bind (wpS_mono (wpS_forRange (I:=fun y c st'=>∃ out ia ib g ac bc g',c=(none,out,ia,ib,g,ac,bc)/\st'=setGal st g'/\MLp a b out ia ib/\x + 2<=out.size)
     (Q:=fun c st'=>∃ g',st'=setGal st g'/\((∃ r:Array Keyed,c.1=some r/\r.toList.Perm (a.toList ++ b.toList))\/∃ out ia ib g ac bc,c=(none,out,ia,ib,g,ac,bc)/\MLp a b out ia ib/\x + 2<=out.size)) ?jstep ?jfin ?jinit) ?jpost)
    case jinit=>exact ⟨out,ia,ib,_,ac,bc,g',rfl,rfl,m,hx2⟩
    case jfin=>
     rintro c st' ⟨out,ia,ib,g,ac,bc,g',rfl,rfl,m,hx⟩
     exact ⟨g',rfl,.inr ⟨out,ia,ib,g,ac,bc,rfl,m,hx⟩⟩
    case jpost=>
     rintro c st' ⟨g',rfl,hc⟩
     rcases hc with ⟨r,hc,hm⟩ | ⟨out,ia,ib,g,ac,bc,rfl,m,hx2⟩
     ·obtain ⟨c,rest⟩:=c
      dsimp only at hc
      subst hc
      exact wpS_pure ⟨r,g',rfl,rfl,hm⟩
     ·try dsimp -zeta only
      exact wpS_bind (wpS_modify (wpS_pure ⟨out,ia,ib,_,_,rfl,rfl,m,hx2⟩))
    case jstep=>
     rintro y c st' _ hy ⟨out,ia,ib,g,ac,bc,g',rfl,rfl,m,hx⟩
     try dsimp -zeta only
     have hia:=m.ha
     have hib:=m.hb
     have hsz:=m.sz
     apply dup1
     case main=>
      intro rest
      refine wpS_iteI (fun gg=>?_) (fun gg=>?_)
      ·generalize g - 1=g2
       exact rest g2
      ·exact rest g
     case leaf=>
      intro g2
      refine wpS_bind (wpS_modify ?_)
      refine wpS_bind (wpS_elemG hib ?_)
      refine wpS_bind (wpS_gallopP (left:=false) an hk (mb _ hib) (fun i hi=>ma _ (by first | (first|lia|omega) | (dsimp only at *; (first|lia|omega)))) (by first | (first|lia|omega) | (dsimp only at *; (first|lia|omega))) (by first | (first|lia|omega) | (dsimp only at *; (first|lia|omega))) fun k k1=>?_)
      try dsimp -zeta only
      apply dup2 (fun (out2:Array Keyed) (ia2:Nat)=>(out2.toList ++ (a.toList.drop ia2 ++ b.toList.drop ib)).Perm (a.toList ++ b.toList)/\out2.size=ia2 + ib/\ia2 + 1 < a.size/\x + 2<=out2.size)
      case main=>
       intro rest
       refine wpS_iteI (fun k0=>?_) (fun k0=>?_)
       ·have m2:=partA out ia ib k m.ml
        have z2:(out ++ a.extract ia (ia + k)).size=ia + k + ib:=by
         rw [Array.size_append,Array.size_extract,hsz]
         first | (first|lia|omega) | (dsimp only at *; (first|lia|omega))
        refine wpS_beqI (fun q1=>wpS_pure ⟨_,rfl,.inl ⟨_,rfl,lastA _ _ _ m2⟩⟩) fun q1=>?_
        refine wpS_beqI (fun q2=>wpS_pure ⟨_,rfl,.inl ⟨_,rfl,doneB _ _ _ m2⟩⟩) fun q2=>?_
        obtain ⟨out2,eo⟩:∃ o,o=out ++ a.extract ia (ia + k):=⟨_,rfl⟩
        obtain ⟨ia2,ei⟩:∃ o,o=ia + k:=⟨_,rfl⟩
        rw [<-eo,<-ei] at m2 z2
        rw [<-eo,<-ei]
        exact rest out2 ia2 ⟨m2,z2,by first | (first|lia|omega) | (dsimp only at *; (first|lia|omega)),by first | (first|lia|omega) | (dsimp only at *; (first|lia|omega))⟩
       ·exact rest out ia ⟨m.ml,hsz,hia,hx⟩
      case leaf=>
       rintro out2 ia2 ⟨m2,z2,hia2,hx2'⟩
       refine wpS_bind (wpS_elemG hib ?_)
       have m3:=pushB out2 ia2 ib m2 hib
       have z3:(out2.push (itA b ib)).size=ia2 + (ib + 1):=by rw [Array.size_push]; (first|lia|omega)
       refine wpS_beqI (fun q3=>wpS_pure ⟨_,rfl,.inl ⟨_,rfl,doneB _ _ _ m3⟩⟩) fun q3=>?_
       refine wpS_bind (wpS_elemG (by (first|lia|omega)) ?_)
       refine wpS_bind (wpS_gallopP (left:=true) an hk (ma _ (by (first|lia|omega))) (fun i hi=>mb _ (by (first|lia|omega))) (by (first|lia|omega)) (by (first|lia|omega)) fun l l1=>?_)
       try dsimp -zeta only
       apply dup2 (fun (out3:Array Keyed) (ib2:Nat)=>(out3.toList ++ (a.toList.drop ia2 ++ b.toList.drop ib2)).Perm (a.toList ++ b.toList)/\out3.size=ia2 + ib2/\ib2 < b.size/\ib<=ib2)
       case main=>
        intro rest
        refine wpS_iteI (fun l0=>?_) (fun l0=>?_)
        ·have m4:=partB _ ia2 (ib + 1) l m3
         have z4:(out2.push (itA b ib) ++ b.extract (ib + 1) (ib + 1 + l)).size=ia2 + (ib + 1 + l):=by
          rw [Array.size_append,Array.size_extract,z3]
          (first|lia|omega)
         refine wpS_beqI (fun q1=>wpS_pure ⟨_,rfl,.inl ⟨_,rfl,doneB _ _ _ m4⟩⟩) fun q1=>?_
         obtain ⟨out3,eo3⟩:∃ o,o=out2.push (itA b ib) ++ b.extract (ib + 1) (ib + 1 + l):=⟨_,rfl⟩
         obtain ⟨ib2,ei3⟩:∃ o,o=ib + 1 + l:=⟨_,rfl⟩
         rw [<-eo3,<-ei3] at m4 z4
         rw [<-eo3,<-ei3]
         exact rest out3 ib2 ⟨m4,z4,by (first|lia|omega),by (first|lia|omega)⟩
        ·exact rest _ (ib + 1) ⟨m3,z3,by (first|lia|omega),by (first|lia|omega)⟩
       case leaf=>
        rintro out3 ib2 ⟨m4,z4,hib2,le2⟩
        refine wpS_bind (wpS_elemG (by (first|lia|omega)) ?_)
        have m5:=pushA out3 ia2 ib2 m4 (by (first|lia|omega))
        have z5:(out3.push (itA a ia2)).size=ia2 + 1 + ib2:=by rw [Array.size_push]; (first|lia|omega)
        refine wpS_beqI (fun q5=>wpS_pure ⟨_,rfl,.inl ⟨_,rfl,lastA _ _ _ m5⟩⟩) fun q5=>?_
        have mm:MLp a b (out3.push (itA a ia2)) (ia2 + 1) ib2:=⟨m5,by (first|lia|omega),hib2,z5⟩
        have hx5:x + 2<=(out3.push (itA a ia2)).size:=by (first|lia|omega)
        refine wpS_iteI (fun _=>wpS_pure ⟨_,rfl,.inr ⟨_,_,_,_,_,_,rfl,mm,hx5⟩⟩) (fun _=>wpS_pure ⟨_,_,_,_,_,_,_,rfl,rfl,mm,hx5⟩)
structure MHp (a b out:Array Keyed) (na nb:Nat):Prop where
 mh:((a.toList.take na ++ b.toList.take nb) ++ out.toList.reverse).Perm (a.toList ++ b.toList)
 ha:0 < na
 hb:1 < nb
 la:na<=a.size
 lb:nb<=b.size
 sz:out.size + (na + nb)=a.size + b.size
theorem wpS_mergeHiP {a b:Array Keyed} {Q:Array Keyed->SortSt->Prop} {st:SortSt} (an:Ans prog w A s κ lt a0) (hk:kindOf st=κ)
  (ma:∀ i,i < a.size->itA a i ∈ a0) (mb:∀ i,i < b.size->itA b i ∈ a0) (pa:0 < a.size) (pb:0 < b.size)
  (h:∀ (r:Array Keyed) g,r.toList.Perm (a.toList ++ b.toList)->Q r (setGal st g)):wpS (model prog w) A E s (mergeHiG a b) Q st:=by
 have pushA:∀ (out:Array Keyed) na nb,((a.toList.take na ++ b.toList.take nb) ++ out.toList.reverse).Perm (a.toList ++ b.toList)->0 < na->na<=a.size->((a.toList.take (na - 1) ++ b.toList.take nb) ++ (out.push (itA a (na - 1))).toList.reverse).Perm (a.toList ++ b.toList):=by
  intro out na nb m h0 h1
  rw [Array.toList_push,List.reverse_append]
  obtain ⟨n,rfl⟩:∃ n,na=n + 1:=⟨na - 1,by (first|lia|omega)⟩
  rw [take_itA (by (first|lia|omega))] at m
  exact ph_takeA (l:=[itA a n]) m
 have pushB:∀ (out:Array Keyed) na nb,((a.toList.take na ++ b.toList.take nb) ++ out.toList.reverse).Perm (a.toList ++ b.toList)->0 < nb->nb<=b.size->((a.toList.take na ++ b.toList.take (nb - 1)) ++ (out.push (itA b (nb - 1))).toList.reverse).Perm (a.toList ++ b.toList):=by
  intro out na nb m h0 h1
  rw [Array.toList_push,List.reverse_append]
  obtain ⟨n,rfl⟩:∃ n,nb=n + 1:=⟨nb - 1,by (first|lia|omega)⟩
  rw [take_itA (by (first|lia|omega))] at m
  exact ph_takeB (l:=[itA b n]) m
 have partA:∀ (out:Array Keyed) na nb k,((a.toList.take na ++ b.toList.take nb) ++ out.toList.reverse).Perm (a.toList ++ b.toList)->k<=na->((a.toList.take k ++ b.toList.take nb) ++ (out ++ (a.extract k na).reverse).toList.reverse).Perm (a.toList ++ b.toList):=by
  intro out na nb k m h0
  rw [Array.toList_append,Array.toList_reverse,List.reverse_append,List.reverse_reverse]
  rw [take_part h0] at m
  exact ph_takeA m
 have partB:∀ (out:Array Keyed) na nb k,((a.toList.take na ++ b.toList.take nb) ++ out.toList.reverse).Perm (a.toList ++ b.toList)->k<=nb->((a.toList.take na ++ b.toList.take k) ++ (out ++ (b.extract k nb).reverse).toList.reverse).Perm (a.toList ++ b.toList):=by
  intro out na nb k m h0
  rw [Array.toList_append,Array.toList_reverse,List.reverse_append,List.reverse_reverse]
  rw [take_part h0] at m
  exact ph_takeB m
 have start:((a.toList.take (a.size - 1) ++ b.toList.take b.size) ++ (#[itA a (a.size - 1)]:Array Keyed).toList.reverse).Perm (a.toList ++ b.toList):=by
  refine pushA #[] a.size b.size ?_ pa (Nat.le_refl _)
  rw [List.take_of_length_le (by simp),List.take_of_length_le (by simp)]
  simp
 have firstB:∀ (out:Array Keyed) na nb,((a.toList.take na ++ b.toList.take nb) ++ out.toList.reverse).Perm (a.toList ++ b.toList)->(b.extract 0 nb ++ a.extract 0 na ++ out.reverse).toList.Perm (a.toList ++ b.toList):=by
  intro out na nb m
  rw [Array.toList_append,Array.toList_append,extr_take,extr_take,Array.toList_reverse]
  exact ph_turn m
 have doneA:∀ (out:Array Keyed) na nb,((a.toList.take na ++ b.toList.take nb) ++ out.toList.reverse).Perm (a.toList ++ b.toList)->(a.extract 0 na ++ b.extract 0 nb ++ out.reverse).toList.Perm (a.toList ++ b.toList):=by
  intro out na nb m
  rw [Array.toList_append,Array.toList_append,extr_take,extr_take,Array.toList_reverse]
  exact m
 refine wpS_bind (wpS_lift (wpAny_rule ⟨rfl,?_⟩))
 try dsimp -zeta only
 refine wpS_bind (wpS_elemG (i:=a.size - 1) (by (first|lia|omega)) ?_)
 by_cases h1:a.size - 1=0
 ·rw [if_pos (by simpa using h1)]
  exact wpS_pure (h _ _ (doneA _ _ _ start))
 rw [if_neg (by simpa using h1)]
 by_cases h2:b.size=1
 ·rw [if_pos (by simpa using h2)]
  exact wpS_pure (h _ _ (firstB _ _ _ start))
 rw [if_neg (by simpa using h2)]
 refine wpS_bind (wpS_get ?_)
 refine wpS_bind (wpS_mono (wpS_forRange (I:=fun x c st'=>∃ na nb out g g',c=(none,na,nb,out,g)/\st'=setGal st g'/\MHp a b out na nb/\x + 1<=out.size)
  (Q:=fun c st'=>∃ (r:Array Keyed) (g':Nat),c.1=some r/\st'=setGal st g'/\r.toList.Perm (a.toList ++ b.toList)) ?step ?fin ?init) ?post)
 case init=>exact ⟨_,_,_,_,_,rfl,rfl,⟨start,by (first|lia|omega),by (first|lia|omega),by (first|lia|omega),by (first|lia|omega),by show 1 + _=_; (first|lia|omega)⟩,by simp⟩
 case fin=>
  rintro c st' ⟨na,nb,out,g,g',rfl,rfl,m,hx⟩
  have:=m.ha
  have:=m.hb
  have:=m.sz
  (first|lia|omega)
 case post=>
  rintro ⟨c,rest⟩ st' ⟨r,g',e,rfl,m⟩
  dsimp only at e
  subst e
  exact wpS_pure (h _ _ m)
 case step=>
  rintro x c st' _ hxs ⟨na,nb,out,g,g',rfl,rfl,m,hx⟩
  try dsimp -zeta only
  refine wpS_bind (wpS_mono (wpS_forRange (I:=fun y c st'=>∃ na nb out ac bc,c=(none,na,nb,out,ac,bc)/\st'=setGal st g'/\MHp a b out na nb/\x + y + 1<=out.size)
   (Q:=fun c st'=>st'=setGal st g'/\((∃ r:Array Keyed,c.1=some r/\r.toList.Perm (a.toList ++ b.toList))\/∃ na nb out ac bc,c=(none,na,nb,out,ac,bc)/\MHp a b out na nb/\x + 2<=out.size)) ?istep ?ifin ?iinit) ?ipost)
  case iinit=>exact ⟨na,nb,out,0,0,rfl,rfl,m,by (first|lia|omega)⟩
  case ifin=>
   rintro c st' ⟨na,nb,out,ac,bc,rfl,rfl,m,hx⟩
   have:=m.ha
   have:=m.hb
   have:=m.sz
   (first|lia|omega)
  case istep=>
   rintro y c st' _ hy ⟨na,nb,out,ac,bc,rfl,rfl,m,hx⟩
   try dsimp -zeta only
   have ha:=m.ha
   have hb:=m.hb
   have la:=m.la
   have lb:=m.lb
   have hsz:=m.sz
   refine wpS_bind (wpS_elemG (by first | (first|lia|omega) | (dsimp only at *; (first|lia|omega))) (wpS_bind (wpS_elemG (by first | (first|lia|omega) | (dsimp only at *; (first|lia|omega))) ?_)))
   refine wpS_bind (wpS_ltG an hk (mb _ (by first | (first|lia|omega) | (dsimp only at *; (first|lia|omega)))) (ma _ (by first | (first|lia|omega) | (dsimp only at *; (first|lia|omega)))) ?_)
   try dsimp -zeta only
   refine wpS_iteI (fun e=>?_) (fun e=>?_)
   ·refine wpS_bind (wpS_elemG (by (first|lia|omega)) ?_)
    have m2:=pushA out na nb m.mh ha la
    refine wpS_beqI (fun q1=>wpS_pure ⟨rfl,.inl ⟨_,rfl,doneA _ _ _ m2⟩⟩) fun q1=>?_
    ·have mm:MHp a b (out.push (itA a (na - 1))) (na - 1) nb:=⟨m2,by (first|lia|omega),hb,by (first|lia|omega),lb,by rw [Array.size_push]; (first|lia|omega)⟩
     refine wpS_iteI (fun _=>wpS_pure ⟨rfl,.inr ⟨_,_,_,_,_,rfl,mm,by rw [Array.size_push]; (first|lia|omega)⟩⟩) (fun _=>wpS_pure ⟨_,_,_,_,_,rfl,rfl,mm,by rw [Array.size_push]; (first|lia|omega)⟩)
   ·refine wpS_bind (wpS_elemG (by (first|lia|omega)) ?_)
    have m2:=pushB out na nb m.mh (by (first|lia|omega)) lb
    refine wpS_beqI (fun q1=>wpS_pure ⟨rfl,.inl ⟨_,rfl,firstB _ _ _ m2⟩⟩) fun q1=>?_
    ·have mm:MHp a b (out.push (itA b (nb - 1))) na (nb - 1):=⟨m2,ha,by (first|lia|omega),la,by (first|lia|omega),by rw [Array.size_push]; (first|lia|omega)⟩
     refine wpS_iteI (fun _=>wpS_pure ⟨rfl,.inr ⟨_,_,_,_,_,rfl,mm,by rw [Array.size_push]; (first|lia|omega)⟩⟩) (fun _=>wpS_pure ⟨_,_,_,_,_,rfl,rfl,mm,by rw [Array.size_push]; (first|lia|omega)⟩)
  case ipost=>
   rintro c st' ⟨rfl,hc⟩
   rcases hc with ⟨r,hc,hm⟩ | ⟨na,nb,out,ac,bc,rfl,m,hx2⟩
   ·obtain ⟨c,rest⟩:=c
    dsimp only at hc
    subst hc
    exact wpS_pure ⟨r,g',rfl,rfl,hm⟩
   ·try dsimp -zeta only
    refine wpS_bind (wpS_lift (wpAny_rule ⟨rfl,?_⟩))
    refine wpS_bind (wpS_mono (wpS_forRange (I:=fun y c st'=>∃ na nb out g ac bc g',c=(none,na,nb,out,g,ac,bc)/\st'=setGal st g'/\MHp a b out na nb/\x + 2<=out.size)
     (Q:=fun c st'=>∃ g',st'=setGal st g'/\((∃ r:Array Keyed,c.1=some r/\r.toList.Perm (a.toList ++ b.toList))\/∃ na nb out g ac bc,c=(none,na,nb,out,g,ac,bc)/\MHp a b out na nb/\x + 2<=out.size)) ?jstep ?jfin ?jinit) ?jpost)
    case jinit=>exact ⟨na,nb,out,_,ac,bc,g',rfl,rfl,m,hx2⟩
    case jfin=>
     rintro c st' ⟨na,nb,out,g,ac,bc,g',rfl,rfl,m,hx⟩
     exact ⟨g',rfl,.inr ⟨na,nb,out,g,ac,bc,rfl,m,hx⟩⟩
    case jpost=>
     rintro c st' ⟨g',rfl,hc⟩
     rcases hc with ⟨r,hc,hm⟩ | ⟨na,nb,out,g,ac,bc,rfl,m,hx2⟩
     ·obtain ⟨c,rest⟩:=c
      dsimp only at hc
      subst hc
      exact wpS_pure ⟨r,g',rfl,rfl,hm⟩
     ·try dsimp -zeta only
      exact wpS_bind (wpS_modify (wpS_pure ⟨na,nb,out,_,_,rfl,rfl,m,hx2⟩))
    case jstep=>
     rintro y c st' _ hy ⟨na,nb,out,g,ac,bc,g',rfl,rfl,m,hx⟩
     try dsimp -zeta only
     have ha:=m.ha
     have hb:=m.hb
     have la:=m.la
     have lb:=m.lb
     have hsz:=m.sz
     apply dup1
     case main=>
      intro rest
      refine wpS_iteI (fun gg=>?_) (fun gg=>?_)
      ·generalize g - 1=g2
       exact rest g2
      ·exact rest g
     case leaf=>
      intro g2
      refine wpS_bind (wpS_modify ?_)
      refine wpS_bind (wpS_elemG (by first | (first|lia|omega) | (dsimp only at *; (first|lia|omega))) ?_)
      refine wpS_bind (wpS_gallopP (left:=false) an hk (mb _ (by first | (first|lia|omega) | (dsimp only at *; (first|lia|omega)))) (fun i hi=>ma _ (by first | (first|lia|omega) | (dsimp only at *; (first|lia|omega)))) (by first | (first|lia|omega) | (dsimp only at *; (first|lia|omega))) (by first | (first|lia|omega) | (dsimp only at *; (first|lia|omega))) fun k k1=>?_)
      try dsimp -zeta only
      generalize hac:na - k=ac2
      apply dup2 (fun (out2:Array Keyed) (na2:Nat)=>((a.toList.take na2 ++ b.toList.take nb) ++ out2.toList.reverse).Perm (a.toList ++ b.toList)/\out2.size + (na2 + nb)=a.size + b.size/\0 < na2/\na2<=a.size/\x + 2<=out2.size)
      case main=>
       intro rest
       refine wpS_iteI (fun k0=>?_) (fun k0=>?_)
       ·have m2:=partA out na nb k m.mh k1
        have z2:(out ++ (a.extract k na).reverse).size + (k + nb)=a.size + b.size:=by
         rw [Array.size_append,Array.size_reverse,Array.size_extract]
         (first|lia|omega)
        refine wpS_beqI (fun q1=>wpS_pure ⟨_,rfl,.inl ⟨_,rfl,doneA _ _ _ m2⟩⟩) fun q1=>?_
        obtain ⟨out2,eo⟩:∃ o,o=out ++ (a.extract k na).reverse:=⟨_,rfl⟩
        obtain ⟨na2,ei⟩:∃ o,o=k:=⟨_,rfl⟩
        rw [<-eo] at m2 z2
        rw [<-eo,<-ei]
        rw [<-ei] at m2 z2
        exact rest out2 na2 ⟨m2,z2,by (first|lia|omega),by (first|lia|omega),by (first|lia|omega)⟩
       ·exact rest out na ⟨m.mh,hsz,ha,la,hx⟩
      case leaf=>
       rintro out2 na2 ⟨m2,z2,p1,p2,hx2'⟩
       refine wpS_bind (wpS_elemG (by (first|lia|omega)) ?_)
       have m3:=pushB out2 na2 nb m2 (by (first|lia|omega)) lb
       have z3:(out2.push (itA b (nb - 1))).size + (na2 + (nb - 1))=a.size + b.size:=by rw [Array.size_push]; (first|lia|omega)
       refine wpS_beqI (fun q3=>wpS_pure ⟨_,rfl,.inl ⟨_,rfl,firstB _ _ _ m3⟩⟩) fun q3=>?_
       refine wpS_bind (wpS_elemG (by (first|lia|omega)) ?_)
       refine wpS_bind (wpS_gallopP (left:=true) an hk (ma _ (by (first|lia|omega))) (fun i hi=>mb _ (by (first|lia|omega))) (by (first|lia|omega)) (by (first|lia|omega)) fun l l1=>?_)
       try dsimp -zeta only
       generalize hbc:nb - 1 - l=bc2
       apply dup2 (fun (out3:Array Keyed) (nb2:Nat)=>((a.toList.take na2 ++ b.toList.take nb2) ++ out3.toList.reverse).Perm (a.toList ++ b.toList)/\out3.size + (na2 + nb2)=a.size + b.size/\1 < nb2/\nb2<=b.size/\x + 2<=out3.size)
       case main=>
        intro rest
        refine wpS_iteI (fun l0=>?_) (fun l0=>?_)
        ·have m4:=partB _ na2 (nb - 1) l m3 l1
         have z4:(out2.push (itA b (nb - 1)) ++ (b.extract l (nb - 1)).reverse).size + (na2 + l)=a.size + b.size:=by
          rw [Array.size_append,Array.size_reverse,Array.size_extract]
          (first|lia|omega)
         refine wpS_beqI (fun q1=>wpS_pure ⟨_,rfl,.inl ⟨_,rfl,firstB _ _ _ m4⟩⟩) fun q1=>?_
         refine wpS_beqI (fun q2=>wpS_pure ⟨_,rfl,.inl ⟨_,rfl,doneA _ _ _ m4⟩⟩) fun q2=>?_
         obtain ⟨out3,eo3⟩:∃ o,o=out2.push (itA b (nb - 1)) ++ (b.extract l (nb - 1)).reverse:=⟨_,rfl⟩
         obtain ⟨nb2,ei3⟩:∃ o,o=l:=⟨_,rfl⟩
         rw [<-eo3] at m4 z4
         rw [<-eo3,<-ei3]
         rw [<-ei3] at m4 z4
         exact rest out3 nb2 ⟨m4,z4,by (first|lia|omega),by (first|lia|omega),by (first|lia|omega)⟩
        ·exact rest _ (nb - 1) ⟨m3,z3,by (first|lia|omega),by (first|lia|omega),by rw [Array.size_push]; (first|lia|omega)⟩
       case leaf=>
        rintro out3 nb2 ⟨m4,z4,p3,p4,hx3⟩
        refine wpS_bind (wpS_elemG (by (first|lia|omega)) ?_)
        have m5:=pushA out3 na2 nb2 m4 p1 p2
        have z5:(out3.push (itA a (na2 - 1))).size + (na2 - 1 + nb2)=a.size + b.size:=by rw [Array.size_push]; (first|lia|omega)
        refine wpS_beqI (fun q5=>wpS_pure ⟨_,rfl,.inl ⟨_,rfl,doneA _ _ _ m5⟩⟩) fun q5=>?_
        have mm:MHp a b (out3.push (itA a (na2 - 1))) (na2 - 1) nb2:=⟨m5,by (first|lia|omega),p3,by (first|lia|omega),p4,z5⟩
        have hx5:x + 2<=(out3.push (itA a (na2 - 1))).size:=by rw [Array.size_push]; (first|lia|omega)
        refine wpS_iteI (fun _=>wpS_pure ⟨_,rfl,.inr ⟨_,_,_,_,_,_,rfl,mm,hx5⟩⟩) (fun _=>wpS_pure ⟨_,_,_,_,_,_,_,rfl,rfl,mm,hx5⟩)
theorem wpS_countRunP {lo nrem:Nat} {Q:Option Nat->SortSt->Prop} {st:SortSt} (an:Ans prog w A s κ lt a0) (hk:kindOf st=κ) (hp:(arrOf st).Perm a0) (hn:lo + nrem<=a0.size) (h1:1<=nrem)
  (h:∀ m ys,Kp (arrOf st) ys lo->1<=m->m<=nrem->Q (some m) (setArr st ys)):wpS (model prog w) A E s (countRun' lo nrem) Q st:=by
 have hz:=hp.size_eq
 refine wpS_bind (wpS_mono (wpS_upG (f:=fun n=>lt (itA (arrOf st) (lo + n)) (itA (arrOf st) (lo + n - 1))) h1 ?_) ?_)
 ·intro x n R n1 n2 y1 y2
  dsimp only
  refine wpS_bind (wpS_ltAtG an hk hp (by (first|lia|omega)) (by (first|lia|omega)) ?_)
  dsimp only
  cases e:lt (itA (arrOf st) (lo + n)) (itA (arrOf st) (lo + n - 1))
  ·exact wpS_pure (y2 e)
  ·exact wpS_pure (y1 e)
 rintro c st' ⟨rfl,n,rfl,n1,n2,q,hor⟩
 dsimp only
 by_cases hnn:n=nrem
 ·rw [if_pos (by simpa using hnn)]
  exact wpS_pure (h n _ (Kp.refl _ _) n1 n2)
 rw [if_neg (by simpa using hnn)]
 by_cases hgt:n > 1
 case' pos=>
  rw [if_pos hgt]
  refine wpS_bind (wpS_ltAtG an hk hp (by (first|lia|omega)) (by (first|lia|omega)) ?_)
  dsimp only
  cases hrose:lt (itA (arrOf st') lo) (itA (arrOf st') (lo + n - 1))
  case' true=>
   simp only [if_true]
   exact wpS_pure (h n _ (Kp.refl _ _) n1 n2)
  case' false=>
   simp only [Bool.false_eq_true,if_false]
   refine wpS_bind (wpS_revG ?_)
   have kp:Kp (arrOf st') (mirror (arrOf st') lo (lo + n) ((lo + n - lo) / 2)) lo:=(Kp.refl _ _).mirror (by (first|lia|omega)) (Nat.le_refl _)
   obtain ⟨ys,ey⟩:∃ ys,ys=mirror (arrOf st') lo (lo + n) ((lo + n - lo) / 2):=⟨_,rfl⟩
   rw [<-ey] at kp
   show wpS (model prog w) A E s _ Q (setArr st' (mirror (arrOf st') lo (lo + n) ((lo + n - lo) / 2)))
   rw [<-ey]
 case' neg=>
  rw [if_neg hgt]
  obtain ⟨ys,ey⟩:∃ ys,ys=arrOf st':=⟨_,rfl⟩
  have kp:Kp (arrOf st') ys lo:=by rw [ey]; exact Kp.refl _ _
  show wpS (model prog w) A E s _ Q (setArr st' (arrOf st'))
  rw [<-ey]
 all_goals
  refine wpS_bind (wpS_lift (wpAny_rule ⟨rfl,?_⟩))
  refine wpS_bind (wpS_mono (wpS_forRange (I:=fun x c st''=>∃ neq ys,c=(none,x,neq)/\st''=setArr st' ys/\Kp (arrOf st') ys lo/\neq + 1<=x)
   (Q:=fun c st''=>∃ m neq ys,c=(none,m,neq)/\st''=setArr st' ys/\Kp (arrOf st') ys lo/\n + 1<=m/\m<=nrem/\neq + 1<=m) ?dstep ?dfin ?dinit) ?dpost)
  case dinit=>exact ⟨0,ys,rfl,rfl,kp,by (first|lia|omega)⟩
  case dfin=>
   rintro c st'' ⟨neq,ys,rfl,rfl,kp,a1⟩
   have e:max (n + 1) nrem=nrem:=by (first|lia|omega)
   rw [e] at a1 ⊢
   exact ⟨nrem,neq,ys,rfl,rfl,kp,by (first|lia|omega),Nat.le_refl _,a1⟩
  case dstep=>
   rintro x c st'' x1 x2 ⟨neq,ys,rfl,rfl,kp,a1⟩
   dsimp only
   have hzy:=kp.size
   have hpy:(arrOf (setArr st' ys)).Perm a0:=kp.1.trans hp
   refine wpS_bind (wpS_ltAtG (st:=setArr st' ys) an hk hpy (by (first|lia|omega)) (by (first|lia|omega)) ?_)
   dsimp only
   cases hless:lt (itA ys (lo + x)) (itA ys (lo + x - 1))
   ·simp only [Bool.false_eq_true,if_false]
    refine wpS_bind (wpS_ltAtG (st:=setArr st' ys) an hk hpy (by (first|lia|omega)) (by (first|lia|omega)) ?_)
    dsimp only
    cases hlarger:lt (itA ys (lo + x - 1)) (itA ys (lo + x))
    ·simp only [Bool.false_eq_true,if_false]
     exact wpS_pure ⟨neq + 1,ys,rfl,rfl,kp,by (first|lia|omega)⟩
    ·simp only [if_true]
     exact wpS_pure ⟨x,neq,ys,rfl,rfl,kp,x1,by (first|lia|omega),a1⟩
   ·simp only [if_true]
    by_cases hq:neq > 0
    ·rw [if_pos hq]
     exact wpS_bind (wpS_revG (wpS_pure ⟨0,_,rfl,rfl,kp.mirror (by (first|lia|omega)) (by (first|lia|omega)),by (first|lia|omega)⟩))
    ·rw [if_neg hq]
     exact wpS_pure ⟨0,ys,rfl,rfl,kp,by (first|lia|omega)⟩
  case dpost=>
   rintro c st'' ⟨m,neq,zs,rfl,rfl,kz,m1,m2,a1⟩
   dsimp only
   have hzz:=kz.size
   have last:∀ us,Kp (arrOf st') us lo->∀ (vs:Array Keyed),Kp (arrOf st') vs lo->∀ n',m<=n'->n'<=nrem->Q (some n') (setArr st' vs):=fun us ku vs kv n' b1 b2=>h n' vs kv (by (first|lia|omega)) b2
   by_cases hq:neq > 0
   case' pos=>
    rw [if_pos hq]
    refine wpS_bind (wpS_revG ?_)
    have kz':Kp (arrOf st') (mirror zs (lo + m - (neq + 1)) (lo + m) ((lo + m - (lo + m - (neq + 1))) / 2)) lo:=kz.mirror (by (first|lia|omega)) (by (first|lia|omega))
    obtain ⟨us,eu⟩:∃ us,us=mirror zs (lo + m - (neq + 1)) (lo + m) ((lo + m - (lo + m - (neq + 1))) / 2):=⟨_,rfl⟩
    rw [<-eu] at kz'
    show wpS (model prog w) A E s _ Q (setArr st' (mirror zs (lo + m - (neq + 1)) (lo + m) ((lo + m - (lo + m - (neq + 1))) / 2)))
    rw [<-eu]
   case' neg=>
    rw [if_neg hq]
    obtain ⟨us,eu⟩:∃ us,us=zs:=⟨_,rfl⟩
    have kz':Kp (arrOf st') us lo:=by rw [eu]; exact kz
    rw [<-eu]
   all_goals
    have hzu:=kz'.size
    refine wpS_bind (wpS_revG ?_)
    show wpS (model prog w) A E s _ Q (setArr st' (mirror us lo (lo + m) ((lo + m - lo) / 2)))
    have kv:Kp (arrOf st') (mirror us lo (lo + m) ((lo + m - lo) / 2)) lo:=kz'.mirror (by (first|lia|omega)) (Nat.le_refl _)
    obtain ⟨vs,ev⟩:∃ vs,vs=mirror us lo (lo + m) ((lo + m - lo) / 2):=⟨_,rfl⟩
    rw [<-ev] at kv
    rw [<-ev]
    have hzv:=kv.size
    refine wpS_bind (wpS_mono (wpS_upG (f:=fun n=>lt (itA vs (lo + n)) (itA vs (lo + n - 1))) m2 ?_) ?_)
    ·intro x n R n1 n2 y1 y2
     dsimp only
     refine wpS_bind (wpS_ltAtG (st:=setArr st' vs) an hk (kv.1.trans hp) (by (first|lia|omega)) (by (first|lia|omega)) ?_)
     dsimp only
     cases e:lt (itA vs (lo + n)) (itA vs (lo + n - 1))
     ·exact wpS_pure (y2 e)
     ·exact wpS_pure (y1 e)
    rintro c st3 ⟨rfl,n',rfl,b1,b2,b3,_⟩
    exact wpS_pure (last us kz' vs kv n' b1 b2)
theorem wpS_binarySortP {lo n ok:Nat} {Q:Bool->SortSt->Prop} {st:SortSt} (an:Ans prog w A s κ lt a0) (hk:kindOf st=κ) (hp:(arrOf st).Perm a0) (hn:lo + n<=a0.size) (h1:1<=ok) (hok:ok<=n)
  (h:∀ ys,Kp (arrOf st) ys lo->Q true (setArr st ys)):wpS (model prog w) A E s (binarySort' lo n ok) Q st:=by
 have hz:=hp.size_eq
 refine wpS_bind (wpS_mono (wpS_forRange (I:=fun k c st'=>c=(none,())/\∃ ys,st'=setArr st ys/\Kp (arrOf st) ys lo)
  (Q:=fun c st'=>c=(none,())/\∃ ys,st'=setArr st ys/\Kp (arrOf st) ys lo) ?step ?fin ?init) ?post)
 case init=>exact ⟨rfl,arrOf st,rfl,Kp.refl _ _⟩
 case fin=>
  rintro c st' ⟨rfl,ys,rfl,kp⟩
  exact ⟨rfl,ys,rfl,kp⟩
 case post=>
  rintro c st' ⟨rfl,ys,rfl,kp⟩
  exact wpS_pure (h ys kp)
 case step=>
  rintro k c st' k1 k2 ⟨rfl,ys,rfl,kp⟩
  dsimp only
  have hzy:=kp.size
  have hpy:(arrOf (setArr st ys)).Perm a0:=kp.1.trans hp
  refine wpS_bind (wpS_mono (wpS_narrowP (n:=k) ?_ ?_ (Nat.zero_le _) (Nat.le_refl _)) ?_)
  ·intro x l R hR
   dsimp only
   rw [if_pos (Nat.le_refl _)]
   exact wpS_pure hR
  ·intro x l r R hlr hrk y1 y2
   dsimp only
   rw [if_neg (by (first|lia|omega)),show (l + r) / 2=l + (r - l) / 2 by (first|lia|omega)]
   refine wpS_bind (wpS_ltAtG (st:=setArr st ys) an hk hpy (by (first|lia|omega)) (by (first|lia|omega)) ?_)
   dsimp only
   cases e:lt (itA ys (lo + k)) (itA ys (lo + (l + (r - l) / 2)))
   ·exact wpS_pure y1
   ·exact wpS_pure y2
  ·rintro c st2 ⟨rfl,r,rfl,r1⟩
   refine wpS_bind ?_
   rw [show (sortPriv% PySem.Builtin.moveDown)=moveDown' from rfl,moveDown'_eq]
   exact wpS_modify (wpS_pure ⟨rfl,bubble ys (lo + k) (lo + k - (lo + r)),rfl,kp.bubble (by (first|lia|omega)) (by (first|lia|omega))⟩)
theorem wpS_mergeAtP {st:SortSt} {Q:Bool->SortSt->Prop} {l1 l2:List (Nat × Nat × Nat)} {sa na p1 sb nb p2:Nat} (an:Ans prog w A s κ lt a0) (hk:kindOf st=κ) (hp:(arrOf st).Perm a0) (hfa:failedOf st=none)
  (hl:(pendingOf st).toList=l1 ++ (sa,na,p1) :: (sb,nb,p2) :: l2) (eb:sb=sa + na) (ha:1<=na) (hb:1<=nb) (hz:sb + nb<=a0.size)
  (h:∀ ys pe g,ys.Perm a0->(∀ k,(k < sa\/sb + nb<=k)->itA ys k=itA (arrOf st) k)->pe.toList=l1 ++ (sa,na + nb,p1) :: l2->Q true (SortSt.mk' (kindOf st) ys pe g none)) :
  wpS (model prog w) A E s (mergeAt' l1.length) Q st:=by
 have hzx:=hp.size_eq
 have mem:∀ i,i < a0.size->itA (arrOf st) i ∈ a0:=fun i hi=>(Array.Perm.mem_iff hp).mp (itA_mem (by (first|lia|omega)))
 have g1:(pendingOf st)[l1.length]? = some (sa,na,p1):=by
  rw [<-Array.getElem?_toList,hl]
  simp
 have g2:(pendingOf st)[l1.length + 1]? = some (sb,nb,p2):=by
  rw [<-Array.getElem?_toList,hl]
  simp
 have pe:(((pendingOf st).setIfInBounds l1.length (sa,na + nb,p1)).eraseIdxIfInBounds (l1.length + 1)).toList=l1 ++ (sa,na + nb,p1) :: l2:=by
  rw [Array.toList_eraseIdxIfInBounds,Array.toList_setIfInBounds,hl]
  simp [List.eraseIdx_append]
  intro z
  (first|lia|omega)
 refine wpS_bind (wpS_get ?_)
 have e2:((pendingOf st)[l1.length]?,(pendingOf st)[l1.length + 1]?)=(some (sa,na,p1),some (sb,nb,p2)):=by rw [g1,g2]
 dsimp only
 rw [show ((sortPriv% PySem.Builtin.SortState.pending) st)[l1.length]? = some (sa,na,p1) from g1,show ((sortPriv% PySem.Builtin.SortState.pending) st)[l1.length + 1]? = some (sb,nb,p2) from g2]
 dsimp only
 refine wpS_bind (wpS_set ?_)
 refine wpS_bind (wpS_elemG (by show sb < (arrOf st).size; (first|lia|omega)) ?_)
 refine wpS_bind (wpS_gallopP (left:=false) an hk (mem _ (by (first|lia|omega))) (fun i hi=>mem _ (by (first|lia|omega))) (by show _<=(arrOf st).size; (first|lia|omega)) (by (first|lia|omega)) fun k k1=>?_)
 dsimp only
 by_cases q1:na - k=0
 ·rw [if_pos (by simpa using q1)]
  refine wpS_pure ?_
  have e:=hfa
  have fin:=h (arrOf st) _ (gallopOf st) hp (fun _ _=>rfl) pe
  rw [<-hfa] at fin
  exact fin
 rw [if_neg (by simpa using q1)]
 refine wpS_bind (wpS_elemG (by show _ < (arrOf st).size; (first|lia|omega)) ?_)
 have el:sa + k + (na - k) - 1=sa + na - 1:=by (first|lia|omega)
 rw [el]
 refine wpS_bind (wpS_gallopP (left:=true) an hk (mem _ (by (first|lia|omega))) (fun i hi=>mem _ (by (first|lia|omega))) (by show _<=(arrOf st).size; (first|lia|omega)) (by (first|lia|omega)) fun m m1=>?_)
 dsimp only
 by_cases q2:m=0
 ·rw [if_pos (by simpa using q2)]
  refine wpS_pure ?_
  have fin:=h (arrOf st) _ (gallopOf st) hp (fun _ _=>rfl) pe
  rw [<-hfa] at fin
  exact fin
 rw [if_neg (by simpa using q2)]
 have zx:((arrOf st).extract (sa + k) sb).size=na - k:=by rw [Array.size_extract]; (first|lia|omega)
 have zy:((arrOf st).extract sb (sb + m)).size=m:=by rw [Array.size_extract]; (first|lia|omega)
 have ix:∀ i,i < na - k->itA ((arrOf st).extract (sa + k) sb) i=itA (arrOf st) (sa + k + i):=fun i hi=>itA_extract (by (first|lia|omega)) (by (first|lia|omega))
 have iy:∀ i,i < m->itA ((arrOf st).extract sb (sb + m)) i=itA (arrOf st) (sb + i):=fun i hi=>itA_extract (by (first|lia|omega)) (by (first|lia|omega))
 have fin:∀ (r:Array Keyed) (g:Nat),r.toList.Perm (((arrOf st).extract (sa + k) sb).toList ++ ((arrOf st).extract sb (sb + m)).toList) ->
   Q true (SortSt.mk' (kindOf st) (List.foldl (fun a x=>a.setIfInBounds (sa + k + x.snd) x.fst) (arrOf st) r.toList.zipIdx) (((pendingOf st).setIfInBounds l1.length (sa,na + nb,p1)).eraseIdxIfInBounds (l1.length + 1)) g none):=by
  intro r g mr
  have rl:r.toList.length=na - k + m:=by
   rw [mr.length_eq,List.length_append,Array.length_toList,Array.length_toList,zx,zy]
  have pb:=put_back (sa + k) r.toList 0 (arrOf st) (by (first|lia|omega))
  rw [Nat.add_zero] at pb
  have l1':((arrOf st).toList.take (sa + k)).length=sa + k:=by rw [List.length_take,Array.length_toList]; (first|lia|omega)
  obtain ⟨zs,ez⟩:∃ zs,zs=List.foldl (fun a x=>a.setIfInBounds (sa + k + x.snd) x.fst) (arrOf st) r.toList.zipIdx:=⟨_,rfl⟩
  rw [<-ez] at pb ⊢
  have zlow:∀ i,i < sa + k->itA zs i=itA (arrOf st) i:=fun i hi=>by
   rw [itA_list,itA_list,pb,List.append_assoc,getD_app1 (by (first|lia|omega)),List.getD_eq_getElem?_getD,List.getElem?_take_of_lt hi,List.getD_eq_getElem?_getD]
  have zhigh:∀ i,sb + m<=i->itA zs i=itA (arrOf st) i:=fun i hi=>by
   rw [itA_list,itA_list,pb,getD_app2 (by rw [List.length_append]; (first|lia|omega)),List.getD_eq_getElem?_getD,List.getElem?_drop,List.getD_eq_getElem?_getD]
   congr 2
   rw [List.length_append]
   (first|lia|omega)
  refine h zs _ g ?_ ?_ pe
  ·refine Array.Perm.trans (Array.perm_iff_toList_perm.mpr ?_) hp
   rw [pb]
   have e1:=take_part (xs:=arrOf st) (i:=sa + k) (j:=sb) (by (first|lia|omega))
   have e2:=take_part (xs:=arrOf st) (i:=sb) (j:=sb + m) (by (first|lia|omega))
   have e3:=List.take_append_drop (sb + m) (arrOf st).toList
   rw [e2,e1] at e3
   rw [rl,show sa + k + (na - k + m)=sb + m by (first|lia|omega)]
   conv=>rhs; rw [<-e3]
   rw [List.append_assoc ((arrOf st).toList.take (sa + k)) ((arrOf st).extract (sa + k) sb).toList]
   exact List.Perm.append_right _ (List.Perm.append_left _ mr)
  ·intro i hi
   rcases hi with hi | hi
   ·exact zlow i (by (first|lia|omega))
   ·exact zhigh i (by (first|lia|omega))
 have mx:∀ i,i < ((arrOf st).extract (sa + k) sb).size->itA ((arrOf st).extract (sa + k) sb) i ∈ a0:=fun i hi=>by rw [ix i (by (first|lia|omega))]; exact mem _ (by (first|lia|omega))
 have my:∀ i,i < ((arrOf st).extract sb (sb + m)).size->itA ((arrOf st).extract sb (sb + m)) i ∈ a0:=fun i hi=>by rw [iy i (by (first|lia|omega))]; exact mem _ (by (first|lia|omega))
 by_cases q3:na - k<=m
 ·rw [if_pos q3]
  refine wpS_bind (wpS_mergeLoP an hk mx my (show 0 < ((arrOf st).extract (sa + k) sb).size by rw [zx]; (first|lia|omega)) (show 0 < ((arrOf st).extract sb (sb + m)).size by rw [zy]; (first|lia|omega)) fun r g mr=>?_)
  refine wpS_bind (wpS_modify (wpS_bind (wpS_get (wpS_pure ?_))))
  have f:=fin r g mr
  rw [<-hfa] at f
  have e:(failedOf st).isNone=true:=by rw [hfa]; rfl
  show Q (failedOf st).isNone _
  rw [e]
  exact f
 ·rw [if_neg q3]
  refine wpS_bind (wpS_mergeHiP an hk mx my (show 0 < ((arrOf st).extract (sa + k) sb).size by rw [zx]; (first|lia|omega)) (show 0 < ((arrOf st).extract sb (sb + m)).size by rw [zy]; (first|lia|omega)) fun r g mr=>?_)
  refine wpS_bind (wpS_modify (wpS_bind (wpS_get (wpS_pure ?_))))
  have f:=fin r g mr
  rw [<-hfa] at f
  have e:(failedOf st).isNone=true:=by rw [hfa]; rfl
  show Q (failedOf st).isNone _
  rw [e]
  exact f
def CovP:Nat->List (Nat × Nat)->Nat->Prop
 | a,[],b=>a=b
 | a,(p,n) :: r,b=>p=a/\1<=n/\CovP (a + n) r b
theorem CovP.app:∀ {l1 l2:List (Nat × Nat)} {a b:Nat},CovP a (l1 ++ l2) b ↔ ∃ m,CovP a l1 m/\CovP m l2 b
 | [],l2,a,b=>⟨fun h=>⟨a,rfl,h⟩,fun ⟨m,e,h⟩=>by cases e; exact h⟩
 | (p,n) :: r,l2,a,b=>by
  refine ⟨fun h=>?_,fun h=>?_⟩
  ·obtain ⟨h1,h2,h3⟩:=h
   obtain ⟨m,a1,a2⟩:=CovP.app.mp h3
   exact ⟨m,⟨h1,h2,a1⟩,a2⟩
  ·obtain ⟨m,⟨h1,h2,h3⟩,h4⟩:=h
   exact ⟨h1,h2,CovP.app.mpr ⟨m,h3,h4⟩⟩
theorem CovP.le:∀ {l:List (Nat × Nat)} {a b:Nat},CovP a l b->a + l.length<=b
 | [],a,b,h=>Nat.le_of_eq h
 | (p,n) :: r,a,b,h=>by
  have:=CovP.le h.2.2
  have:=h.2.1
  rw [List.length_cons]
  (first|lia|omega)
structure SrtP (κ:SortKind) (a0:Array Keyed) (lo:Nat) (st:SortSt):Prop where
 kd:kindOf st=κ
 pm:(arrOf st).Perm a0
 fa:failedOf st=none
 cv:CovP 0 ((pendingOf st).toList.map whr) lo
theorem SrtP.merge {st:SortSt} {lo i:Nat} {Q:Bool->SortSt->Prop} (an:Ans prog w A s κ lt a0) (h:SrtP κ a0 lo st) (hi:i + 1 < (pendingOf st).size) (hlo:lo<=a0.size)
  (q:∀ st',SrtP κ a0 lo st'->(pendingOf st').size + 1=(pendingOf st).size->(∀ k,lo<=k->itA (arrOf st') k=itA (arrOf st) k)->Q true st'):wpS (model prog w) A E s (mergeAt' i) Q st:=by
 have hl:i < (pendingOf st).toList.length:=by rw [Array.length_toList]; (first|lia|omega)
 have hl2:i + 1 < (pendingOf st).toList.length:=by rw [Array.length_toList]; (first|lia|omega)
 obtain ⟨⟨sa,na,p1⟩,ex⟩:∃ x,(pendingOf st).toList[i]=x:=⟨_,rfl⟩
 obtain ⟨⟨sb,nb,p2⟩,ey⟩:∃ y,(pendingOf st).toList[i + 1]=y:=⟨_,rfl⟩
 have e:(pendingOf st).toList=(pendingOf st).toList.take i ++ (sa,na,p1) :: (sb,nb,p2) :: (pendingOf st).toList.drop (i + 2):=by
  conv=>lhs; rw [<-List.take_append_drop i (pendingOf st).toList]
  rw [List.drop_eq_getElem_cons hl,List.drop_eq_getElem_cons hl2,ex,ey]
 have tl:((pendingOf st).toList.take i).length=i:=by rw [List.length_take]; (first|lia|omega)
 obtain ⟨l1,el1⟩:∃ l,l=(pendingOf st).toList.take i:=⟨_,rfl⟩
 obtain ⟨l2,el2⟩:∃ l,l=(pendingOf st).toList.drop (i + 2):=⟨_,rfl⟩
 rw [<-el1,<-el2] at e
 rw [<-el1] at tl
 have cv:=h.cv
 rw [e,List.map_append,CovP.app] at cv
 obtain ⟨m,c1,c2,c3,c5,c6,c8⟩:=cv
 dsimp only [whr] at c2 c3 c5 c6 c8
 subst c2
 have ele:=c8.le
 subst tl
 refine wpS_mergeAtP an h.kd h.pm h.fa e c5 c3 c6 (by (first|lia|omega)) fun ys pe g y1 y2 y4=>q _ ⟨h.kd,y1,rfl,?_⟩ ?_ ?_
 ·show CovP 0 (pe.toList.map whr) lo
  rw [y4,List.map_append,CovP.app]
  refine ⟨sa,c1,rfl,?_,?_⟩
  ·show 1<=na + nb
   (first|lia|omega)
  ·show CovP (sa + (na + nb)) _ lo
   rw [<-Nat.add_assoc]
   exact c8
 ·show pe.size + 1=_
  have z1:pe.toList.length=l1.length + (l2.length + 1):=by rw [y4]; simp
  have z2:(pendingOf st).toList.length=l1.length + (l2.length + 1 + 1):=by rw [e]; simp
  rw [Array.length_toList] at z1 z2
  (first|lia|omega)
 ·intro k hk
  exact y2 k (.inr (by (first|lia|omega)))
theorem wpS_sortRunsP {st:SortSt} {Q:Unit->SortSt->Prop} (an:Ans prog w A s κ lt a0) (hk:kindOf st=κ) (ha:arrOf st=a0) (hf:failedOf st=none) (hpe:pendingOf st=#[]) (h2:1<=a0.size)
  (h:∀ st',(arrOf st').Perm a0->failedOf st'=none->Q () st'):wpS (model prog w) A E s sortRuns' Q st:=by
 have hp:(arrOf st).Perm a0:=by rw [ha]
 refine wpS_bind (wpS_get ?_)
 dsimp only
 have ez:((sortPriv% PySem.Builtin.SortState.a) st).size=a0.size:=by rw [show (sortPriv% PySem.Builtin.SortState.a) st=a0 from ha]
 rw [ez]
 refine wpS_bind (wpS_mono (wpS_forRange (I:=fun x c st'=>∃ lo,c=(none,lo)/\x<=lo/\lo<=a0.size/\SrtP κ a0 lo st')
  (Q:=fun c st'=>c=(none,a0.size)/\SrtP κ a0 a0.size st') ?step ?fin ?init) ?post)
 case init=>
  refine ⟨0,rfl,Nat.le_refl _,Nat.zero_le _,hk,hp,hf,?_⟩
  rw [hpe]
  exact rfl
 case fin=>
  rintro c st' ⟨lo,rfl,q1,q2,q3⟩
  have:lo=a0.size:=by (first|lia|omega)
  rw [this] at q3 ⊢
  exact ⟨rfl,q3⟩
 case step=>
  rintro x c st' _ hx ⟨lo,rfl,q1,q2,q3⟩
  dsimp only
  by_cases hlo:lo >= a0.size
  ·rw [if_pos hlo]
   have:lo=a0.size:=by (first|lia|omega)
   rw [this] at q3 ⊢
   exact wpS_pure ⟨rfl,q3⟩
  rw [if_neg hlo]
  have hz:=q3.pm.size_eq
  refine wpS_bind (wpS_countRunP an q3.kd q3.pm (by (first|lia|omega)) (by (first|lia|omega)) fun m ys k1 m1 m2=>?_)
  dsimp only
  by_cases hm:m < (sortPriv% PySem.Builtin.minRun) a0.size a0.size 0
  case' pos=>
   rw [if_pos hm]
   refine wpS_bind (wpS_lift (wpAny_rule ⟨rfl,?_⟩))
   refine wpS_bind (wpS_binarySortP (st:=setArr st' ys) an q3.kd (k1.1.trans q3.pm) (by (first|lia|omega)) m1 (by (first|lia|omega)) fun zs k2=>?_)
   simp only [Bool.not_true,Bool.false_eq_true,if_false]
   refine wpS_bind (wpS_get ?_)
   obtain ⟨n,en⟩:∃ n,n=min (a0.size - lo) ((sortPriv% PySem.Builtin.minRun) a0.size a0.size 0):=⟨_,rfl⟩
   have n1:1<=n:=by (first|lia|omega)
   have n2:lo + n<=a0.size:=by (first|lia|omega)
   rw [<-en]
   have kz:Kp (arrOf st') zs lo:=⟨k2.1.trans k1.1,fun k hk=>(k2.2 k hk).trans (k1.2 k hk)⟩
  case' neg=>
   rw [if_neg hm]
   refine wpS_bind (wpS_get ?_)
   obtain ⟨zs,ezs⟩:∃ zs,zs=ys:=⟨_,rfl⟩
   obtain ⟨n,en⟩:∃ n,n=m:=⟨_,rfl⟩
   have n1:1<=n:=by (first|lia|omega)
   have n2:lo + n<=a0.size:=by (first|lia|omega)
   have kz:Kp (arrOf st') zs lo:=by rw [ezs]; exact k1
   rw [<-ezs,<-en]
  all_goals
   have S2:SrtP κ a0 lo (setArr st' zs):=⟨q3.kd,kz.1.trans q3.pm,q3.fa,q3.cv⟩
   have push:∀ st4,SrtP κ a0 lo st4->SrtP κ a0 (lo + n) (setPending st4 ((pendingOf st4).push (lo,n,0))):=by
    intro st4 S4
    refine ⟨S4.kd,S4.pm,S4.fa,?_⟩
    show CovP 0 (((pendingOf st4).push (lo,n,0)).toList.map whr) (lo + n)
    rw [Array.toList_push,List.map_append,CovP.app]
    exact ⟨lo,S4.cv,rfl,n1,rfl⟩
   cases eb:(pendingOf (setArr st' zs)).back? with
   | none=>
    dsimp only
    exact wpS_bind (wpS_modify (wpS_pure ⟨lo + n,rfl,by (first|lia|omega),n2,push _ S2⟩))
   | some bk=>
    obtain ⟨b1,b2,b3⟩:=bk
    dsimp only
    obtain ⟨pw,epw⟩:∃ pw,pw=(sortPriv% PySem.Builtin.power) a0.size (2 * b1 + b2) (2 * b1 + b2 + b2 + n) a0.size:=⟨_,rfl⟩
    rw [<-epw]
    refine wpS_bind (wpS_mono (wpS_forRange (I:=fun _ c st''=>c=(none,())/\SrtP κ a0 lo st'')
     (Q:=fun c st''=>c=(none,())/\SrtP κ a0 lo st'') ?_ (fun _ _ hh=>hh) ⟨rfl,S2⟩) ?_)
    ·rintro y c st'' _ _ ⟨rfl,S3⟩
     refine wpS_bind (wpS_get ?_)
     by_cases hps:(pendingOf st'').size > 1
     ·rw [if_pos hps]
      obtain ⟨⟨o1,o2,o3⟩,eo⟩:∃ o,(pendingOf st'')[(pendingOf st'').size - 2]? = some o:=⟨_,Array.getElem?_eq_getElem (by (first|lia|omega))⟩
      rw [show ((sortPriv% PySem.Builtin.SortState.pending) st'')[((sortPriv% PySem.Builtin.SortState.pending) st'').size - 2]? = some (o1,o2,o3) from eo]
      dsimp only
      by_cases ho:o3<=pw
      ·rw [if_pos ho]
       exact wpS_pure ⟨rfl,S3⟩
      ·rw [if_neg ho]
       refine wpS_bind (S3.merge an (by show (pendingOf st'').size - 2 + 1 < _; (first|lia|omega)) (by (first|lia|omega)) fun st5 S5 _ e5=>?_)
       simp only [Bool.not_true,Bool.false_eq_true,if_false]
       exact wpS_pure ⟨rfl,S5⟩
     ·rw [if_neg hps]
      exact wpS_pure ⟨rfl,S3⟩
    ·rintro c st'' ⟨rfl,S3⟩
     dsimp only
     refine wpS_bind (wpS_modify (wpS_bind (wpS_modify (wpS_pure ⟨lo + n,rfl,by (first|lia|omega),n2,?_⟩))))
     refine push (setPending st'' ((pendingOf st'').modify ((pendingOf st'').size - 1) fun x=>(x.fst,x.2.fst,pw))) ⟨S3.kd,S3.pm,S3.fa,?_⟩
     show CovP 0 (((pendingOf st'').modify ((pendingOf st'').size - 1) fun x=>(x.fst,x.2.fst,pw)).toList.map whr) lo
     rw [map_whr_modify (pendingOf st'') ((pendingOf st'').size - 1) (fun x=>(x.fst,x.2.fst,pw)) fun x=>rfl]
     exact S3.cv
 case post=>
  rintro c st' ⟨rfl,S1⟩
  dsimp only
  have z1:(pendingOf st').size<=a0.size:=by
   have:=S1.cv.le
   rw [List.length_map,Array.length_toList] at this
   (first|lia|omega)
  refine wpS_bind (wpS_mono (wpS_forRange (I:=fun x c st''=>c=(none,())/\SrtP κ a0 a0.size st''/\(pendingOf st'').size + x<=a0.size + 1)
   (Q:=fun c st''=>c=(none,())/\SrtP κ a0 a0.size st''/\(pendingOf st'').size<=1) ?_ ?_ ⟨rfl,S1,by (first|lia|omega)⟩) ?_)
  ·rintro x c st'' _ hx ⟨rfl,S2,z2⟩
   refine wpS_bind (wpS_get ?_)
   by_cases hps:(pendingOf st'').size<=1
   ·rw [if_pos hps]
    exact wpS_pure ⟨rfl,S2,hps⟩
   ·rw [if_neg hps]
    refine wpS_bind (S2.merge an ?_ (Nat.le_refl _) fun st5 S5 z5 _=>?_)
    ·exact fewer2 _ _ (by show 1 < (pendingOf st'').size; (first|lia|omega))
    ·simp only [Bool.not_true,Bool.false_eq_true,if_false]
     exact wpS_pure ⟨rfl,S5,by (first|lia|omega)⟩
  ·rintro c st'' ⟨rfl,S2,z2⟩
   refine ⟨rfl,S2,?_⟩
   (first|lia|omega)
  ·rintro c st'' ⟨rfl,S2,z2⟩
   exact wpS_pure (h st'' S2.pm S2.fa)
theorem listSortP {a:Addr} {vs:List Value} {n:Nat} {P:Fin->Shared->Prop} (lies:s.heap.get? a=some (seqObj "list" vs.toArray n)) (few:vs.length<=sizeLine)
  (cm:2<=vs.length->∀ h',(∀ b o,b ≠ a->s.heap.get? b=some o->h'.get? b=some o) ->
   ∃ κ,(∀ (Q:SortKind->Shared->Prop) (E:Value->Shared->Prop),Q κ { s with heap:=h' }->wpAny (model prog w) A (keyKind' vs.toArray) Q E { s with heap:=h' })/\Ans prog w A { s with heap:=h' } κ lt (pairsOf vs))
  (k:∀ out:List Value,out.Perm vs->P (.done (.ret .none)) { s with heap:=sortedHeap s.heap a vs out.toArray }) :
  wpAny (model prog w) A (Builtin.«list.sort» ⟨[.ref a],[]⟩) P E s:=by
 have alt:=Heap.lt_size lies
 rw [list_sort_plain]
 refine wpAny_bind (listItems_at lies rfl (wpAny_bind (listUpdate_at lies rfl ?_ (by simpa using few) (Nat.zero_le _))))
 obtain ⟨c,lies1⟩:∃ c,(s.heap.update a (Obj.mapSeq fun _=>#[])).get? a=some (seqObj "list" #[] c):=⟨_,get?_update_seq lies (fun _=>#[])⟩
 refine wpAny_bind (seqEpoch_at lies1 rfl (wpAny_bind (wpAny_newTuple (wpAny_bind (wpAny_newList (wpAny_holding ?_) (Nat.zero_le _))) (by simpa using few))))
 obtain ⟨h3,eh3⟩:∃ h3,h3=((s.heap.update a (Obj.mapSeq fun _=>(#[]:Array Value))).push (seqObj "tuple" vs.toArray 0)).push (seqObj "list" #[] 0):=⟨_,rfl⟩
 have lies3:h3.get? a=some (seqObj "list" #[] c):=by
  rw [eh3]
  exact Heap.get?_push_of_some _ (Heap.get?_push_of_some _ lies1)
 have keep3:∀ b o,b ≠ a->s.heap.get? b=some o->h3.get? b=some o:=fun b o hb e=>by
  rw [eh3]
  exact Heap.get?_push_of_some _ (Heap.get?_push_of_some _ ((Heap.get?_update_ne _ _ _ _ hb).trans e))
 show wpAny (model prog w) A _ P E { s with heap:=((s.heap.update a (Obj.mapSeq fun _=>(#[]:Array Value))).push (seqObj "tuple" vs.toArray 0)).push (seqObj "list" #[] 0) }
 rw [<-eh3]
 have last:∀ st':SortSt,(arrOf st').Perm (pairsOf vs)->P (.done (.ret .none)) { s with heap:=h3.update a (Obj.mapSeq fun _=>(arrOf st').map (·.2)) }:=fun st' hp=>by
  have e:(arrOf st').map (·.2)=((arrOf st').toList.map (·.2)).toArray:=by apply Array.toList_inj.mp; simp
  have q:=k _ (out_perm hp)
  rw [<-e] at q
  rw [eh3]
  exact q
 have zl:∀ st':SortSt,(arrOf st').Perm (pairsOf vs)->((arrOf st').map (·.2)).size<=sizeLine + 1:=fun st' hp=>by
  rw [Array.size_map,hp.size_eq,pairsOf_size]
  (first|lia|omega)
 have zv:vs.toArray.size=vs.length:=rfl
 dsimp only
 rcases Nat.lt_or_ge vs.toArray.size 2 with lo | hi
 ·rw [if_pos lo,if_pos lo]
  refine wpAny_bind (wpAny_pure ?_)
  rw [StateT.run_pure]
  refine wpAny_bind (wpAny_pure (wpAny_bind (seqEpoch_at lies3 rfl ?_)))
  have p0:(arrOf (SortSt.mk' general' (vs.toArray.zip vs.toArray) #[] 7 none)).Perm (pairsOf vs):=Array.Perm.refl _
  refine wpAny_bind (listUpdate_at lies3 rfl ?_ (Nat.zero_le _) (zl _ p0))
  rw [bne_self_eq_false]
  exact wpAny_pure (last _ p0)
 ·rw [if_neg (by (first|lia|omega)),if_neg (by (first|lia|omega))]
  obtain ⟨κ,k1,k2⟩:=cm (by (first|lia|omega)) h3 keep3
  refine wpAny_bind (k1 _ _ ?_)
  refine wpAny_bind (wpAny_mono (wpS_sortRunsP (a0:=pairsOf vs) (st:=SortSt.mk' κ (vs.toArray.zip vs.toArray) #[] 7 none)
   (Q:=fun _ st'=>(arrOf st').Perm (pairsOf vs)/\failedOf st'=none) k2 rfl rfl rfl rfl (by rw [pairsOf_size]; (first|lia|omega)) fun st' a1 a2=>⟨a1,a2⟩) ?_ fun _ _ e=>e)
  rintro ⟨u,st'⟩ s' ⟨rfl,hp,hf⟩
  refine wpAny_bind (seqEpoch_at lies3 rfl (wpAny_bind (listUpdate_at lies3 rfl ?_ (Nat.zero_le _) (zl _ hp))))
  dsimp only
  rw [hf,bne_self_eq_false]
  exact wpAny_pure (last st' hp)
theorem sortedP {l:Addr} {vs:List Value} {Q:Value->Shared->Prop} (hl:s.heap.IsList l vs.toArray) (few:vs.length<=sizeLine) (cm:Cmpd prog w s lt vs)
  (k:∀ out:List Value,out.Perm vs->Q (.ref (s.heap.objs.size + 1)) { s with heap:=sortedAll s.heap vs out.toArray }) :
  wpAny (model prog w) A (call (.builtin "sorted") [.ref l]) Q E s:=by
 refine Calls.call_function_entry kind_sorted plain_sorted entry_sorted (args_sorted1 _) ?_
 unfold Builtin.«sorted»
 refine wpAny_bind (m:=checkCount "sorted" 1 1 _) (wpAny_pure (wpAny_bind (collect_list hl ?_ few)))
 refine wpAny_bind (wpAny_newList ?_ (by simpa using few))
 obtain ⟨h1,eh1⟩:∃ h1,h1=(s.heap.push (seqObj "list" #[] 0)).update s.heap.objs.size (Obj.mapSeq (· ++ vs.toArray)):=⟨_,rfl⟩
 have z1:h1.objs.size=s.heap.objs.size + 1:=by rw [eh1,Heap.size_update,size_push']
 have lies:(h1.push (seqObj "list" vs.toArray 0)).get? (s.heap.objs.size + 1)=some (seqObj "list" vs.toArray 0):=by
  rw [<-z1]
  exact Heap.get?_push_size _ rfl
 have keep:∀ b o,s.heap.get? b=some o->(h1.push (seqObj "list" vs.toArray 0)).get? b=some o:=fun b o q=>by
  have hb:=Heap.lt_size q
  refine Heap.get?_push_of_some _ ?_
  rw [eh1,Heap.get?_update_ne _ _ _ _ (Nat.ne_of_lt hb)]
  exact Heap.get?_push_of_some _ q
 show wpAny _ _ _ _ _ { s with heap:=((s.heap.push (seqObj "list" #[] 0)).update s.heap.objs.size (Obj.mapSeq (· ++ vs.toArray))).push (seqObj "list" vs.toArray 0) }
 rw [<-eh1,z1]
 refine wpAny_bind (wpAny_holding (wpAny_call_entry slot_list_sort ⟨_,lies,rfl⟩ entry_list_sort (listSortP (lt:=lt) (s:={ s with heap:=h1.push (seqObj "list" vs.toArray 0) }) lies few ?_ fun out o1=>⟨_,rfl,wpAny_pure ⟨_,rfl,?_⟩⟩) (args_list_sort _)))
 ·intro h2 h' kp
  exact cm h2 _ h' fun b o e=>kp b o (Nat.ne_of_lt (Nat.lt_succ_of_lt (Heap.lt_size e))) (keep b o e)
 ·have q:=k out o1
  unfold sortedAll at q
  rw [<-eh1] at q
  exact q
end
end L2
namespace L2
open PySem PySem.Spec PyProof.Rows
def RawD (h:Heap) (d:Addr) (es:Array DictEntry) (ep:Nat):Prop:=∃ o,h.get? d=some o/\o.ExactDict/\o.data=.dict es ep
theorem RawD.typeIs {s:Shared} {d:Addr} {es:Array DictEntry} {ep:Nat} (x:RawD s.heap d es ep):s.TypeIs (.ref d) "dict":=let ⟨o,h1,h2,_⟩:=x; ⟨o,h1,h2.1⟩
theorem RawD.at' {h h':Heap} {d:Addr} {es:Array DictEntry} {ep:Nat} (x:RawD h d es ep) (e:∀ o,h.get? d=some o->h'.get? d=some o):RawD h' d es ep:=let ⟨o,h1,r⟩:=x; ⟨o,e _ h1,r⟩
theorem RawD.lt {h:Heap} {d:Addr} {es:Array DictEntry} {ep:Nat} (x:RawD h d es ep):d < h.objs.size:=let ⟨_,h1,_⟩:=x; Heap.lt_size h1
section
variable {prog:Program} {w:World} {A:Around} {E:Value->Shared->Prop} {s:Shared}
theorem raw_iter {d:Addr} {es:Array DictEntry} {ep:Nat} {Q:Value->Shared->Prop} (hd:(d == sysModules)=false) (hm:RawD s.heap d es ep)
  (hQ:Q (.ref s.heap.objs.size) { s with heap:=s.heap.push { cls:=.type "dict_keyiterator",data:=.fields #[.ref d,.int 0 0,.int es.size 0,.int ep 0] } }) :
  wpAny (model prog w) A (pyIter (.ref d)) Q E s:=by
 obtain ⟨o,ho,hc,hdat⟩:=id hm
 have hT:s.TypeIs (.ref d) "dict":=hm.typeIs
 refine wpAny_pyIter_slot hT F.slot_dict_iter (wpAny_call_entry F.slot_dict_iter hT F.entry_dict_iter ?_ (F.args_dict_iter_1 _))
 unfold Builtin.«dict.__iter__»
 refine wpAny_bind ?_
 unfold Builtin.Dict.dictSlotNone
 refine wpAny_bind (wpAny_notOrdered_dict hT ?_)
 show wpAny _ _ (pure (Value.ref d)) _ _ s
 refine wpAny_pure ?_
 show wpAny _ _ (Builtin.Dict.showsAll d >>= _) _ _ s
 unfold Builtin.Dict.showsAll
 rw [if_neg (by rw [hd]; exact Bool.false_ne_true)]
 refine wpAny_bind (wpAny_pure ?_)
 refine wpAny_bind (wpAny_dictEntries ho hdat ?_)
 refine wpAny_bind (wpAny_dictEpoch ho hdat ?_)
 have hsz:es.size=es.size:=rfl
 refine wpAny_bind (wpAny_newObj_type (wpAny_pure ⟨_,rfl,"dict_keyiterator",_,⟨_,Heap.get?_push_size _ rfl,rfl⟩,F.slot_dict_keyiterator_next.lookup,?_⟩))
 simpa [rawInt] using hQ
theorem raw_item {it d:Addr} {i ep:Nat} {es:Array DictEntry} {key:Value} {Q:Option Value->Shared->Prop} (hit:s.heap.IsKeyIter it d i es.size ep)
  (hm:RawD s.heap d es ep) (hx:es[i]?.map (·.key)=some key)
  (hQ:∀ h',h'.IsKeyIter it d (i + 1) es.size ep->Heap.SameBut it s.heap h'->Q (some key) { s with heap:=h' }) :
  wpAny (model prog w) A (pyNext (.ref it)) Q E s:=by
 obtain ⟨o,ho,hc,hd⟩:=id hit
 obtain ⟨od,hod,hcd,hdd⟩:=id hm
 unfold pyNext
 refine wpAny_bind (wpAny_attempt (wpAny_callSpecial?_slot (name:=Str.ofString "__next__") hit.typeIs F.slot_dict_keyiterator_next
  (wpAny_call_entry F.slot_dict_keyiterator_next hit.typeIs F.entry_dict_keyiterator_next ?_ (F.args_dict_keyiterator_next_1 _))))
 refine wpAny_bind (wpAny_pure ?_)
 refine wpAny_bind ?_
 refine wpAny_bind ?_
 first | refine wpAny_bind (wpAny_typeNameOfWhole_keyiter hit.typeIs (wpAny_pure ?_)) | refine wpAny_bind (wpAny_typeNameOf_keyiter hit.typeIs (wpAny_pure ?_))
 refine wpAny_bind (wpAny_fieldsOf ho hd ?_)
 have hown:Builtin.Dict_items.ownsTuple "dict_keyiterator"=false:=by decide
 simp only [hown,Bool.false_eq_true,if_false]
 show wpAny _ _ (if (Value.ref d == Value.none)=true then _ else _) _ _ s
 rw [if_neg (show ¬ ((Value.ref d == Value.none)=true) from Bool.false_ne_true)]
 refine wpAny_bind (wpAny_pure ?_)
 refine wpAny_bind (wpAny_dictEntries hod hdd ?_)
 have hsz:es.size=es.size:=rfl
 rw [if_neg (by rw [hsz]; simp)]
 refine wpAny_bind (wpAny_pure ?_)
 refine wpAny_bind (wpAny_dictEpoch hod hdd ?_)
 rw [if_neg (by simp)]
 refine wpAny_pure ?_
 have hlt':i < es.size:=by
  rcases Nat.lt_or_ge i es.size with h | h
  ·exact h
  ·rw [Array.getElem?_eq_none h] at hx; cases hx
 have hkey:es[i].key=key:=by rw [Array.getElem?_eq_getElem hlt'] at hx; exact Option.some.inj hx
 simp only [show ¬ ((i:Int) < 0) from by (first|lia|omega),if_false,Int.toNat_natCast,Array.getElem?_eq_getElem hlt']
 refine wpAny_bind ?_
 first | refine wpAny_bind (wpAny_typeNameOfWhole_keyiter hit.typeIs (wpAny_pure ?_)) | refine wpAny_bind (wpAny_typeNameOf_keyiter hit.typeIs (wpAny_pure ?_))
 refine wpAny_bind (wpAny_isOneOf_keyiter hit.typeIs ?_)
 show wpAny _ _ (setField (.ref it) 1 (rawInt ((i:Int) + 1)) >>= _) _ _ s
 refine wpAny_bind (wpAny_setField ho hd (by simp) ?_)
 have hit':(s.heap.update it (Obj.mapFields (·.setIfInBounds 1 (rawInt ((i:Int) + 1))))).IsKeyIter it d (i + 1) es.size ep:=
  ⟨_,Heap.get?_update_self _ ho (Obj.isFreed_of_fields (Obj.data_mapFields hd _)),(Obj.cls_mapFields ..).trans hc,by rw [Obj.data_mapFields hd]; simp [rawInt]⟩
 refine wpAny_bind (wpAny_holding ?_)
 refine wpAny_bind (wpAny_isOneOf_keyiter (s:={ s with heap:=s.heap.update it (Obj.mapFields (·.setIfInBounds 1 (rawInt ((i:Int) + 1)))) }) hit'.typeIs ?_)
 show wpAny _ _ (pure es[i].key) _ _ _
 exact wpAny_pure (wpAny_pure ⟨_,rfl,wpAny_pure (hkey ▸ hQ _ hit' (Heap.SameBut.update ..))⟩)
theorem raw_end {it d:Addr} {i ep:Nat} {es:Array DictEntry} {Q:Option Value->Shared->Prop} (hh:A.handled=none) (hit:s.heap.IsKeyIter it d i es.size ep)
  (hm:RawD s.heap d es ep) (hx:es.size<=i)
  (hQ:∀ h',Heap.ExtBut it s.heap h'->Q none { s with heap:=h' }):wpAny (model prog w) A (pyNext (.ref it)) Q E s:=by
 obtain ⟨o,ho,hc,hd⟩:=id hit
 obtain ⟨od,hod,hcd,hdd⟩:=id hm
 unfold pyNext
 refine wpAny_bind (wpAny_attempt (wpAny_callSpecial?_slot (name:=Str.ofString "__next__") hit.typeIs F.slot_dict_keyiterator_next
  (wpAny_call_entry F.slot_dict_keyiterator_next hit.typeIs F.entry_dict_keyiterator_next ?_ (F.args_dict_keyiterator_next_1 _))))
 refine wpAny_bind (wpAny_pure ?_)
 refine wpAny_bind ?_
 refine wpAny_bind ?_
 first | refine wpAny_bind (wpAny_typeNameOfWhole_keyiter hit.typeIs (wpAny_pure ?_)) | refine wpAny_bind (wpAny_typeNameOf_keyiter hit.typeIs (wpAny_pure ?_))
 refine wpAny_bind (wpAny_fieldsOf ho hd ?_)
 have hown:Builtin.Dict_items.ownsTuple "dict_keyiterator"=false:=by decide
 simp only [hown,Bool.false_eq_true,if_false]
 show wpAny _ _ (if (Value.ref d == Value.none)=true then _ else _) _ _ s
 rw [if_neg (show ¬ ((Value.ref d == Value.none)=true) from Bool.false_ne_true)]
 refine wpAny_bind (wpAny_pure ?_)
 refine wpAny_bind (wpAny_dictEntries hod hdd ?_)
 have hsz:es.size=es.size:=rfl
 rw [if_neg (by rw [hsz]; simp)]
 refine wpAny_bind (wpAny_pure ?_)
 refine wpAny_bind (wpAny_dictEpoch hod hdd ?_)
 rw [if_neg (by simp)]
 refine wpAny_pure ?_
 have hge:es.size<=i:=hx
 simp only [show ¬ ((i:Int) < 0) from by (first|lia|omega),if_false,Int.toNat_natCast,Array.getElem?_eq_none hge]
 refine wpAny_bind ?_
 first | refine wpAny_bind (wpAny_typeNameOfWhole_keyiter hit.typeIs (wpAny_pure ?_)) | refine wpAny_bind (wpAny_typeNameOf_keyiter hit.typeIs (wpAny_pure ?_))
 show wpAny _ _ (setField (.ref it) 0 .none >>= _) _ _ s
 refine wpAny_bind (wpAny_setField ho hd (by simp) ?_)
 show wpAny _ _ (newExc (.type "StopIteration") [] >>= _) _ _ _
 refine wpAny_bind ?_
 simp only [newExc,newTuple]
 refine wpAny_bind (wpAny_newObj_type ?_ (by size_fits))
 refine wpAny_bind (m:=firstArgMember _ _) (wpAny_of_eq (a:=Value.none) (by first | rfl | (simp only [firstArgMember]; rfl)) ?_)
 refine wpAny_newObj_type ?_ (by size_fits)
 simp only [raiseNew]
 refine wpAny_bind (wpAny_handled ?_)
 rw [show A.in1.handled=none from hh]
 refine wpAny_bind (wpAny_pure (wpAny_throw ?_))
 refine wpAny_bind (wpAny_isInstance (T:="StopIteration") (b:=true) ⟨_,Heap.get?_push_size _ rfl,rfl⟩ isSubtype_stop ?_)
 exact wpAny_pure (hQ _ (((Heap.SameBut.update ..).extBut.push _).push _))
theorem raw_walks (hh:A.handled=none) (I d:Addr) (hne:d ≠ I) (es:Array DictEntry) (ep:Nat) :
  Walks prog w A I [I,d] [I] es.size (fun i v=>es[i]?.map (·.key)=some v) (fun i h=>h.IsKeyIter I d i es.size ep/\RawD h d es ep) where
 sub:=fun b hb=>by simp at hb; simp [hb]
 frame:=fun _ _ _ st hk=>⟨st.1.at fun o e=>hk I (by simp) o e,st.2.at' fun o e=>hk d (by simp) o e⟩
 item:=fun i s Q E hi st hQ=>by
  have hx:es[i]?.map (·.key)=some es[i].key:=by rw [Array.getElem?_eq_getElem hi]; rfl
  refine raw_item st.1 st.2 hx fun h' hit' hs'=>?_
  exact hQ _ h' s.toks hx ⟨hit',st.2.at' fun o e=>hs'.extBut d o hne e⟩ fun b o hb e=>hs'.extBut b o (fun h=>hb (by simp [h])) e
 done:=fun s Q E st hQ=>raw_end hh st.1 st.2 (Nat.le_refl _) fun h' he'=>hQ h' s.toks fun b o hb e=>he' b o (fun h=>hb (by simp [h])) e
 self:=fun _ _ _ _ st hQ=>wpAny_pyIter_keyiter st.1 hQ
theorem raw_src {d:Addr} {es:Array DictEntry} {ep:Nat} (lo:(d == sysModules)=false):PySem.W.KdlSrc prog w "dict" d d es.size (fun i v=>es[i]?.map (·.key)=some v) (fun h=>RawD h d es ep) where
 type:=fun _ hm=>hm.typeIs
 there:=fun _ hm=>⟨hm.lt,hm.lt⟩
 keep:=fun _ _ hm hk=>hm.at' fun o e=>hk d (.inl rfl) o e
 notList:=by decide
 notTuple:=by decide
 hint:=fun _ _ _ _ hm hq=>PySem.W.kdl_hint_dict hm.typeIs hq
 iter:=fun _ _ hh hm=>⟨_,_,(fun _ _ hq=>raw_iter lo hm hq),raw_walks hh _ d (Nat.ne_of_lt hm.lt) es ep,⟨⟨_,Heap.get?_push_size _ rfl,rfl,rfl⟩,hm.at' fun o e=>Heap.get?_push_of_some _ e⟩⟩
end
theorem call_list_dT {X:Cx} (hc:X.calm=true):CallR X (.type "list") (fun xs H Q=>∃ (d:Addr) (kvs:List (List Key × V)),xs=[.ref d]/\H d=some (.dT kvs) /\
  ∀ (l:Addr) (ts:List Addr),H l=none->ts.length=kvs.length->(∀ (i:Nat) t p,ts[i]? = some t->kvs[i]? = some p->H t=some (.tup (p.1.map kV)))->Q (.ref l) (upd H l (.lst (ts.map V.ref)))):=by
 intro pins s σ H xs us Q I r h
 obtain ⟨d,kvs,rfl,hd,q⟩:=h
 obtain ⟨u,rfl,ru⟩:=vals1 r
 cases ru
 obtain ⟨z,y,xs,rel,o,es,ep,h1,h2,h3,h4,h5⟩:=(show ObjOk X.prog X.w H s.heap d (.dT kvs) from I.hok d _ hd)
 have hlen:es.size=kvs.length:=by
  rw [<-Array.length_toList,h4,List.length_map]
  exact (Paired.length rel).symm
 refine PySem.W.kdl_call (raw_src (es:=es) (ep:=ep) y) (I.ok.hd hc) ⟨o,h1,h2,h3⟩ (by rw [hlen]; exact z) fun h' tk acc c' kk hl hacc=>?_
 have key:∀ (i:Nat) v,acc.toList[i]? = some v->∃ q,xs[i]? = some q/\v=.ref q.2.1:=fun i v e=>by
  have e2:=hacc.2 i v (by rw [<-Array.getElem?_toList]; exact e)
  dsimp only at e2
  rw [<-Array.getElem?_toList,h4,List.getElem?_map] at e2
  cases z:xs[i]? with
  | none=>rw [z] at e2; cases e2
  | some q=>
   rw [z] at e2
   exact ⟨q,rfl,(Option.some.inj e2).symm⟩
 have al:acc.toList.length=xs.length:=by
  rw [Array.length_toList,hacc.1,<-Array.length_toList,h4,List.length_map]
 have av:acc.toList=xs.map fun q=>Value.ref q.2.1:=by
  refine List.ext_getElem (by rw [al,List.length_map]) fun i i1 i2=>?_
  obtain ⟨q,e1,e2⟩:=key i _ (List.getElem?_eq_getElem i1)
  rw [List.getElem_map]
  rw [List.getElem?_eq_getElem (by rw [<-al]; exact i1)] at e1
  rw [e2,Option.some.inj e1]
 have vals:∀ l:List (List Key × Addr × Value),Vals ((l.map (·.2.1)).map V.ref) (l.map fun q=>Value.ref q.2.1):=by
  intro l
  induction l with
  | nil=>exact .nil
  | cons q l ih=>exact .cons rfl ih
 have rl:=Paired.length rel
 refine ⟨.ref s.heap.objs.size,_,I.laid (a:=s.heap.objs.size) (o:=.lst ((xs.map (·.2.1)).map V.ref)) (t':=tk) kk (Nat.le_refl _) ⟨by rw [List.length_map,List.length_map,<-rl]; exact z,acc.toList,c',by rw [av]; exact vals xs,by rw [Array.toArray_toList]; exact hl⟩,rfl,q _ (xs.map (·.2.1)) (I.hok.fresh (Nat.le_refl _)) (by rw [List.length_map,<-rl]) fun i t p e1 e2=>?_⟩
 have at':∀ {l:List (List Key × V)} {m:List (List Key × Addr × Value)},Paired (fun (p:List Key × V) (q:List Key × Addr × Value)=>p.1=q.1/\H q.2.1=some (.tup (p.1.map kV))/\RelV p.2 q.2.2) l m->∀ (i:Nat) p t,l[i]? = some p->(m.map (·.2.1))[i]? = some t->H t=some (.tup (p.1.map kV)):=by
  intro l m r
  induction r with
  | nil=>intro i p t e; simp at e
  | cons a b ih=>
   intro i p t e1 e2
   cases i with
   | zero=>
    simp at e1 e2
    subst e1 e2
    exact a.2.1
   | succ i=>exact ih i p t (by simpa using e1) (by simpa using e2)
 exact at' rel i p t e2 e1
end L2
namespace L2
open PySem PySem.Spec PyProof.Rows
theorem ints_of {ns:List Int}:∀ {us:List Value},Vals (ns.map V.int) us->IntsAre us ns:=by
 induction ns with
 | nil=>intro us r; cases r; exact .nil
 | cons x ns ih=>
  intro us r
  cases r with
  | cons r1 r2=>
   obtain ⟨t,rfl⟩:=r1
   exact .cons x t (ih r2)
theorem of_ints:∀ {us:List Value} {ns:List Int},IntsAre us ns->Vals (ns.map V.int) us
 | _,_,.nil=>.nil
 | _,_,.cons x t r=>.cons ⟨t,rfl⟩ (of_ints r)
theorem call_sorted_ints {X:Cx}:CallR X (.builtin "sorted") (fun xs H Q=>∃ (a:Addr) (ns:List Int),xs=[.ref a]/\SqL X.K H a (ns.map V.int)/\ns.length < 64 /\
  ∀ (l:Addr) (ns':List Int),H l=none->ns'.Perm ns->ns'.Pairwise (·<=·)->Q (.ref l) (upd H l (.lst (ns'.map V.int)))):=by
 intro pins s σ H xs us Q I r h
 obtain ⟨a,ns,rfl,ha,h64,q⟩:=h
 obtain ⟨u,rfl,ru⟩:=vals1 r
 cases ru
 obtain ⟨its,rv,pl,hz⟩:=I.list ha
 have hl:its.length=ns.length:=by rw [<-rv.length,List.length_map]
 refine sorted_ints pl.isList (ints_of rv) (by (first|lia|omega)) fun out ns' h1 h2 h3=>?_
 obtain ⟨e,he⟩:=sortedAll_at s.heap its out
 refine ⟨.ref (s.heap.objs.size + 1),_,I.laid (o:=.lst (ns'.map V.int)) (t':=s.toks) (fun b o z=>sortedAll_old z) (Nat.le_succ _) ⟨?_,out.toList,e,of_ints h1,by simpa using he⟩,rfl,q _ ns' (I.hok.fresh (Nat.le_succ _)) h2 h3⟩
 rw [List.length_map,h2.length_eq]
 have:100 < sizeLine:=by decide
 (first|lia|omega)
structure Fn (K:PySem.W.Frag) (mg:Str->Option Value) (nm:Str) (st:Stmt) (ps:List Str) (f:Addr) (fd:FuncData):Prop where
 F:Fun K nm nm st f fd
 mg:mg nm=some (.ref f)
 b:Binds K fd ps []
theorem putK_mem {κ:Type} [DecidableEq κ] {kvs:List (κ × V)} {k:κ} {v:V} {p:κ × V} (h:p ∈ putK kvs k v):p=(k,v)\/p ∈ kvs:=by
 unfold putK at h
 split at h
 ·obtain ⟨q,hq,e⟩:=List.mem_map.mp h
  by_cases z:q.1=k
  ·rw [if_pos z] at e
   exact .inl (by rw [<-e,z])
  ·rw [if_neg z] at e
   exact .inr (e ▸ hq)
 ·rcases List.mem_append.mp h with h | h
  ·exact .inr h
  ·exact .inl (List.mem_singleton.mp h)
theorem putK_len {κ:Type} [DecidableEq κ] (kvs:List (κ × V)) (k:κ) (v:V):(putK kvs k v).length<=kvs.length + 1:=by
 unfold putK
 split
 ·rw [List.length_map]; (first|lia|omega)
 ·rw [List.length_append]; simp
theorem valV_mem {κ:Type} [DecidableEq κ] {kvs:List (κ × V)} {k:κ} {v:V} (h:(k,v) ∈ kvs):∃ v',valV kvs k=some v'/\(k,v') ∈ kvs:=by
 induction kvs with
 | nil=>exact nomatch h
 | cons p r ih=>
  by_cases e:p.1=k
  ·exact ⟨p.2,valV_pos e,by rw [<-e]; exact List.mem_cons_self⟩
  ·rcases List.mem_cons.mp h with z | z
   ·exact absurd (by rw [<-z]) e
   ·obtain ⟨v',a,b⟩:=ih z
    exact ⟨v',by rw [valV_neg e]; exact a,List.mem_cons_of_mem _ b⟩
def WaysN (n:Nat) (kvs:List (List Key × V)):Prop:=∀ p ∈ kvs,∃ (i j l:Int),p=([Sum.inl i,Sum.inl j],.int l)/\0<=i/\i < j/\j < n/\1<=l/\l < 10 ^ 30
theorem WaysN.put {n:Nat} {kvs:List (List Key × V)} (h:WaysN n kvs) {i j l:Int} (h0:0<=i) (h1:i < j) (h2:j < n) (h3:1<=l) (h4:l < 10 ^ 30):WaysN n (putK kvs [Sum.inl i,Sum.inl j] (.int l)):=fun p hp=>by
 rcases putK_mem hp with rfl | z
 ·exact ⟨i,j,l,rfl,h0,h1,h2,h3,h4⟩
 ·exact h p z
structure MI (H H':Hp) (p N W:Addr) (xs:List Str) (kvs:List (List Key × V)):Prop where
 pn:PnAt H' p
 hn:H' N=some (.lst (xs.map V.str))
 hw:H' W=some (.dT kvs)
 kp:∀ b o,b ≠ p->H b=some o->H' b=some o
 nN:N ≠ p
 nW:W ≠ p
 wN:W ≠ N
 fW:H W=none
theorem MI.add {H H':Hp} {p N W D:Addr} {xs:List Str} {kvs:List (List Key × V)} (h:MI H H' p N W xs kvs) (hD:H' D=none) (o:HO):MI H (upd H' D o) p N W xs kvs:=by
 have dp:=h.pn.ne hD
 refine ⟨h.pn.other dp,?_,?_,fun b o hb e=>?_,h.nN,h.nW,h.wN,h.fW⟩
 ·rw [upd_ne (ne_of_none h.hn hD)]; exact h.hn
 ·rw [upd_ne (ne_of_none h.hw hD)]; exact h.hw
 ·have e2:=h.kp b o hb e
  rw [upd_ne (ne_of_none e2 hD)]; exact e2
theorem MI.pen {H H':Hp} {p N W:Addr} {xs:List Str} {kvs:List (List Key × V)} (h:MI H H' p N W xs kvs) (a b c:Int):MI H (upd H' p (.lst (penL a b c))) p N W xs kvs:=
 ⟨PnAt.set a b c,by rw [upd_ne h.nN]; exact h.hn,by rw [upd_ne h.nW]; exact h.hw,fun b o hb e=>by rw [upd_ne hb]; exact h.kp b o hb e,h.nN,h.nW,h.wN,h.fW⟩
theorem MI.put {H H':Hp} {p N W:Addr} {xs:List Str} {kvs:List (List Key × V)} (h:MI H H' p N W xs kvs) (kvs':List (List Key × V)):MI H (upd H' W (.dT kvs')) p N W xs kvs':=
 ⟨h.pn.other h.nW,by rw [upd_ne h.wN.symm]; exact h.hn,upd_same,fun b o hb e=>by rw [upd_ne (ne_of_none e h.fW)]; exact h.kp b o hb e,h.nN,h.nW,h.wN,h.fW⟩
structure MapAt (H:Hp) (m:Addr) (n:Nat) (xs:List Str) (ws:List Way):Prop where
 ex:∃ t1 t2:Addr,∃ vs:List V,H m=some (.tup [.ref t1,.ref t2])/\H t1=some (.tup (xs.map V.str))/\H t2=some (.tup vs)/\Dats H vs (ws.map wayD)
 len:xs.length=n
 nd:xs.Nodup
 nm:∀ x ∈ xs,nameB x=true
 wl:ws.length<=100
 wn:∀ u ∈ ws,nameB u.1=true/\nameB u.2.1=true/\1<=u.2.2/\u.2.2 < 10 ^ 30
end L2
namespace L2
open PySem PySem.Spec PyProof.Rows
def iSeq (K:PySem.W.Frag) (tl:TE):TI:=fun σ H R=>tl σ H fun x H1=>∃ a,x=.ref a/\(((∃ xs,SqL K H1 a xs)/\R (Itl K a) H1)\/((∃ xs,SqT K H1 a xs)/\R (Itt K a) H1))
theorem pi_seq {X:Cx} {tg l:Expr} {tl:TE} (hl:PE X l tl):PI X tg l (iSeq X.K tl):=by
 intro pins s σ H R I h
 refine thn (hl pins s σ H _ I h) fun v s1 ⟨x,H1,I1,r1,q1⟩=>?_
 obtain ⟨a,e,q1⟩:=q1
 subst e
 cases r1
 have fp:∀ b ∈ [s1.heap.objs.size],FpOk X pins H1 b:=fun b hb=>by
  have e:b=s1.heap.objs.size:=by simpa using hb
  subst e
  exact I1.fpOk (Nat.le_refl _) (I1.hok.fresh (Nat.le_refl _))
 rcases q1 with ⟨⟨xs,hq⟩,q⟩ | ⟨⟨xs,hq⟩,q⟩
 ·obtain ⟨its,rv,p,hz⟩:=I1.list hq
  refine wpAny_pyIter_list p.isList ?_
  exact ⟨s1.heap.objs.size,[s1.heap.objs.size],_,_,H1,rfl,I1.kept (t':=s1.toks) fun b o e=>Heap.get?_push_of_some _ e,turn_list a _,⟨_,Heap.get?_push_size _ rfl,rfl,rfl⟩,fp,q⟩
 ·obtain ⟨its,rv,p,hz⟩:=I1.tuple hq
  refine wpAny_pyIter_tuple (show s1.heap.IsTuple a its.toArray from p) ?_
  exact ⟨s1.heap.objs.size,[s1.heap.objs.size],_,_,H1,rfl,I1.kept (t':=s1.toks) fun b o e=>Heap.get?_push_of_some _ e,turn_tuple a _,⟨_,Heap.get?_push_size _ rfl,rfl,rfl⟩,fp,q⟩
structure Over (J:It) (xs:List V) (S:Hp->Prop):Prop where
 go:∀ i H,S H->i < xs.length->J.go i H
 yld:∀ i H x H',S H->J.yld i H x H'->H'=H/\xs[i]? = some x
 stop:∀ H,S H->J.stop xs.length H
theorem over_list {K:PySem.W.Frag} {a:Addr} {xs:List V}:Over (Itl K a) xs (fun H=>SqL K H a xs):=
 ⟨fun i H q hlt=>⟨xs,xs[i],q,by simp [hlt]⟩,fun i H x H' q y=>⟨y.1,y.2 xs q⟩,fun H q=>⟨xs,q,Nat.le_refl _⟩⟩
theorem over_tup {K:PySem.W.Frag} {a:Addr} {xs:List V}:Over (Itt K a) xs (fun H=>SqT K H a xs):=
 ⟨fun i H q hlt=>⟨xs,xs[i],q,by simp [hlt]⟩,fun i H x H' q y=>⟨y.1,y.2 xs q⟩,fun H q=>⟨xs,q,Nat.le_refl _⟩⟩
theorem read_map {J:It} {xs:List V} {S:Hp->Prop} {g:TG} {te:TE} {H:Hp} {σ0:St} {R:Addr->Hp->Prop} (ov:Over J xs S) (I:Addr->Nat->St->Hp->List V->Prop) (big:xs.length < sizeLine)
  (h0:∀ D,H D=none->I D 0 σ0 (upd H D (.lst [])) [])
  (hs:∀ D i σ H' acc,H D=none->I D i σ H' acc->S H'/\H' D=some (.lst acc)/\acc.length=i)
  (turn:∀ D i σ H' acc x (B:St->V->Hp->Prop),H D=none->xs[i]? = some x->I D i σ H' acc->(∀ σ2 v H5,H5 D=some (.lst acc)->I D (i + 1) σ2 (upd H5 D (.lst (acc ++ [v]))) (acc ++ [v])->B σ2 v H5)->g x σ H' fun σ2 H3=>te σ2 H3 (B σ2))
  (fin:∀ D σ H' acc,H D=none->I D xs.length σ H' acc->R D H') :
  ∀ D,H D=none->∃ W:Nat->Nat->St->Hp->Prop,(∃ m,W 0 m σ0 (upd H D (.lst []))) /\
   ∀ i m σ' H',W i m σ' H'->(J.stop i H'/\R D H')\/(J.go i H'/\∀ x H2,J.yld i H' x H2->g x σ' H2 fun σ2 H3=>tYes σ2 H3 fun b H4=>
    if b=true then te σ2 H4 (fun v H5=>∃ acc,H5 D=some (.lst acc)/\acc.length < sizeLine/\∃ m',m' < m/\W (i + 1) m' σ2 (upd H5 D (.lst (acc ++ [v])))) else ∃ m',m' < m/\W (i + 1) m' σ2 H4):=by
 intro D hD
 refine ⟨fun i m σ H'=>m=xs.length - i/\i<=xs.length/\∃ acc,I D i σ H' acc,⟨xs.length,rfl,Nat.zero_le _,[],h0 D hD⟩,?_⟩
 rintro i m σ H' ⟨rfl,hi,acc,p⟩
 obtain ⟨s1,s2,s3⟩:=hs D i σ H' acc hD p
 by_cases hlt:i < xs.length
 ·refine .inr ⟨ov.go i H' s1 hlt,fun x H2 y=>?_⟩
  obtain ⟨rfl,ex⟩:=ov.yld i H' x H2 s1 y
  have e:∀ (F:St->V->Hp->Prop) (G:St->Hp->Prop),(fun (σ2:St) (H3:Hp)=>tYes σ2 H3 fun b H4=>if b=true then te σ2 H4 (F σ2) else G σ2 H4)=fun σ2 H3=>te σ2 H3 (F σ2):=by
   intro F G
   funext σ2 H3
   show (if true=true then te σ2 H3 (F σ2) else G σ2 H3)=_
   rw [if_pos rfl]
  rw [e (fun σ2 v H5=>∃ acc,H5 D=some (.lst acc)/\acc.length < sizeLine/\∃ m',m' < xs.length - i/\(m'=xs.length - (i + 1)/\i + 1<=xs.length/\∃ acc',I D (i + 1) σ2 (upd H5 D (.lst (acc ++ [v]))) acc')) (fun σ2 H4=>∃ m',m' < xs.length - i/\(m'=xs.length - (i + 1)/\i + 1<=xs.length/\∃ acc',I D (i + 1) σ2 H4 acc'))]
  refine turn D i σ H2 acc x _ hD ex p fun σ2 v H5 d5 p5=>?_
  exact ⟨acc,d5,by (first|lia|omega),xs.length - (i + 1),by (first|lia|omega),rfl,hlt,_,p5⟩
 ·have e:i=xs.length:=by (first|lia|omega)
  subst e
  exact .inl ⟨ov.stop H' s1,fin D σ H' acc hD p⟩
end L2
namespace L2
open PySem PySem.Spec PyProof.Rows
structure Fine (d:PyData) (k b:Nat):Prop where
 lay:d.canLay0=true
 sho:d.showable=true
 nod:d.hasDict=false
 lv:d.leavesShort 200=true
 dp:d.depth<=k
 bu:d.bulk<=b
theorem Fine.str {x:Str} (h:nameB x=true):Fine (.str x) 0 6:=by
 obtain ⟨l1,l2,lo⟩:=low_of h
 refine ⟨?_,rfl,rfl,?_,Nat.le_refl _,?_⟩
 ·have:=lay_strs (xs:=[x]) (by simpa using h)
  simpa [PyData.canLayAll0,PyData.canLay0] using this
 ·have e:PyData.leavesShort 200 (.str x)=x.cps.toList.all fun c=>decide (c < 16 ^ 8):=by simp only [PyData.leavesShort]
  rw [e,List.all_eq_true]
  intro c hc
  have:=lo c hc
  unfold lowc at this
  simp at this
  apply decide_eq_true
  (first|lia|omega)
 ·show PyData.bulk (.str x)<=6
  simp only [PyData.bulk]
  exact l2
theorem Fine.mono {d:PyData} {k b k' b':Nat} (h:Fine d k b) (h1:k<=k') (h2:b<=b'):Fine d k' b':=⟨h.lay,h.sho,h.nod,h.lv,Nat.le_trans h.dp h1,Nat.le_trans h.bu h2⟩
theorem Fine.all {k b:Nat}:∀ {ds:List PyData},(∀ d ∈ ds,Fine d k b)->PyData.canLayAll0 ds=true/\PyData.showableAll ds=true/\PyData.hasDictAll ds=false/\PyData.leavesShortAll 200 ds=true/\PyData.depthAll ds<=k/\PyData.bulkAll ds<=ds.length * (b + 1)
 | [],_=>⟨rfl,rfl,rfl,rfl,Nat.zero_le _,Nat.zero_le _⟩
 | d :: ds,h=>by
  obtain ⟨a1,a2,a3,a4,a5,a6⟩:=Fine.all (ds:=ds) fun e he=>h e (List.mem_cons_of_mem _ he)
  have f:=h d List.mem_cons_self
  have f5:=f.dp
  have f6:=f.bu
  refine ⟨by simp [PyData.canLayAll0,f.lay,a1],by simp [PyData.showableAll,f.sho,a2],by simp [PyData.hasDictAll,f.nod,a3],by simp [PyData.leavesShortAll,f.lv,a4],?_,?_⟩
  ·simp only [PyData.depthAll]
   (first|lia|omega)
  ·simp only [PyData.bulkAll,List.length_cons,Nat.succ_mul]
   (first|lia|omega)
theorem Fine.tuple {ds:List PyData} {k b:Nat} (h:∀ d ∈ ds,Fine d k b):Fine (.tuple ds) (k + 1) (ds.length * (b + 1)):=by
 obtain ⟨a1,a2,a3,a4,a5,a6⟩:=Fine.all h
 exact ⟨by simp only [PyData.canLay0]; exact a1,by simp only [PyData.showable]; exact a2,by simp only [PyData.hasDict]; exact a3,by simp only [PyData.leavesShort]; exact a4,by simp only [PyData.depth]; (first|lia|omega),by simp only [PyData.bulk]; exact a6⟩
theorem Fine.list {ds:List PyData} {k b:Nat} (h:∀ d ∈ ds,Fine d k b):Fine (.list ds) (k + 1) (ds.length * (b + 1)):=by
 obtain ⟨a1,a2,a3,a4,a5,a6⟩:=Fine.all h
 exact ⟨by simp only [PyData.canLay0]; exact a1,by simp only [PyData.showable]; exact a2,by simp only [PyData.hasDict]; exact a3,by simp only [PyData.leavesShort]; exact a4,by simp only [PyData.depth]; (first|lia|omega),by simp only [PyData.bulk]; exact a6⟩
abbrev Row:=Str × Int
def rowD (u:Row):PyData:=.tuple [.str u.1,.int u.2]
structure RowsOk (xs:List Str) (lo:Int) (rs:List Row):Prop where
 sub:∀ r ∈ rs,r.1 ∈ xs
 nd:(rs.map (·.1)).Nodup
 lo:∀ r ∈ rs,lo<=r.2/\r.2 < 10 ^ 30
 one:1<=rs.length
end L2
namespace L2
open PySem PySem.Spec PyProof.Rows
def rk (u:Row):List Atm:=[.s u.1,.i u.2]
def RiseR (rs:List Row):Prop:=rs.Pairwise (fun u v=>lexLt (rk v) (rk u)=false)
theorem row_at {H:Hp} {v:V} {u:Row} (h:Dat H v (rowD u)):∃ t,v=.ref t/\H t=some (.tup [.str u.1,.int u.2]):=by
 unfold rowD at h
 cases h with
 | tup ha hd=>
  cases hd with
  | cons h1 r1=>
   cases r1 with
   | cons h2 r2=>
    cases r2
    cases h1
    cases h2
    exact ⟨_,rfl,ha⟩
theorem rowD_of {H:Hp} {t:Addr} {u:Row} (h:H t=some (.tup [.str u.1,.int u.2])):Dat H (.ref t) (rowD u):=.tup h (.cons (.str _) (.cons (.int _) .nil))
theorem row_dats {H2 H3:Hp} {vs:List V} {rs:List Row} (h:Dats H2 vs (rs.map rowD)) (ht:∀ b xs,H2 b=some (.tup xs)->H3 b=some (.tup xs)):Dats H3 vs (rs.map rowD):=by
 induction rs generalizing vs with
 | nil=>cases h; exact .nil
 | cons u rs ih=>
  cases h with
  | cons h1 r=>
   obtain ⟨t,rfl,e⟩:=row_at h1
   exact .cons (rowD_of (ht _ _ e)) (ih r)
theorem dats_row {H:Hp}:∀ {vs:List V} {rs:List Row} {i:Nat} {x:V},Dats H vs (rs.map rowD)->vs[i]? = some x->∃ u t,rs[i]? = some u/\x=.ref t/\H t=some (.tup [.str u.1,.int u.2])
 | _,[],i,x,.nil,e=>by simp at e
 | _,u :: rs,0,x,.cons h r,e=>by
  simp only [List.getElem?_cons_zero,Option.some.injEq] at e
  subst e
  obtain ⟨t,rfl,q⟩:=row_at h
  exact ⟨u,t,rfl,rfl,q⟩
 | _,u :: rs,i + 1,x,.cons h r,e=>by
  obtain ⟨u',t,a,b,c⟩:=dats_row r (by simpa using e)
  exact ⟨u',t,by simpa using a,b,c⟩
theorem rows_len {H:Hp}:∀ {vs:List V} {rs:List Row},Dats H vs (rs.map rowD)->vs.length=rs.length
 | _,[],.nil=>rfl
 | _,u :: rs,.cons h r=>by rw [List.length_cons,List.length_cons,rows_len r]
theorem rows_perm {H:Hp} {vs vs':List V} (p:vs'.Perm vs):∀ {rs:List Row},Dats H vs (rs.map rowD)->∃ rs':List Row,Dats H vs' (rs'.map rowD)/\rs'.Perm rs:=by
 induction p with
 | nil=>intro rs h; exact ⟨rs,h,.refl _⟩
 | cons x p ih=>
  intro rs h
  cases rs with
  | nil=>cases h
  | cons u rs=>
   cases h with
   | cons h1 h2=>
    obtain ⟨rs',a,b⟩:=ih h2
    exact ⟨u :: rs',.cons h1 a,b.cons u⟩
 | swap x y l=>
  intro rs h
  cases rs with
  | nil=>cases h
  | cons u rs=>
   cases h with
   | cons h1 h2=>
    cases rs with
    | nil=>cases h2
    | cons v rs=>
     cases h2 with
     | cons h3 h4=>exact ⟨v :: u :: rs,.cons h3 (.cons h1 h4),.swap u v rs⟩
 | trans p1 p2 ih1 ih2=>
  intro rs h
  obtain ⟨rs1,a1,b1⟩:=ih2 h
  obtain ⟨rs2,a2,b2⟩:=ih1 a1
  exact ⟨rs2,a2,b2.trans b1⟩
theorem row_tupK {H:Hp} {v:V} {u:Row} (h:Dat H v (rowD u)):TupK H (fun i=>decide (i < 1)) v/\keyV H v=rk u:=by
 obtain ⟨t,rfl,ht⟩:=row_at h
 refine ⟨⟨t,_,rfl,ht,by simp,fun i y e=>?_⟩,?_⟩
 ·unfold KindV
  match i,e with
  | 0,e=>cases e; simp
  | 1,e=>cases e; simp
  | n + 2,e=>simp at e
 ·show (match H t with | some (.tup ys)=>ys.map vAtm | _=>[])=_
  rw [ht]
  rfl
theorem rows_tupK {H:Hp}:∀ {vs:List V} {rs:List Row},Dats H vs (rs.map rowD)->(∀ v ∈ vs,TupK H (fun i=>decide (i < 1)) v)/\vs.map (keyV H)=rs.map rk
 | _,[],.nil=>⟨(fun v hv=>nomatch hv),rfl⟩
 | _,u :: rs,.cons h r=>by
  obtain ⟨a1,a2⟩:=row_tupK h
  obtain ⟨b1,b2⟩:=rows_tupK r
  refine ⟨fun v hv=>?_,by rw [List.map_cons,List.map_cons,a2,b2]⟩
  rcases List.mem_cons.mp hv with rfl | hv
  ·exact a1
  ·exact b1 v hv
theorem call_sorted_rows {X:Cx}:CallR X (.builtin "sorted") (fun xs H Q=>∃ (a:Addr) (vs:List V) (rs:List Row),xs=[.ref a]/\SqL X.K H a vs/\Dats H vs (rs.map rowD) /\
  ∀ (l:Addr) (vs':List V) (rs':List Row),H l=none->Dats H vs' (rs'.map rowD)->rs'.Perm rs->RiseR rs'->Q (.ref l) (upd H l (.lst vs'))):=by
 intro pins s σ H xs us Q I r h
 obtain ⟨a,vs,rs,rfl,ha,hd,q⟩:=h
 refine call_sorted_tups pins s σ H _ us Q I r ⟨a,vs,_,rfl,ha,(rows_tupK hd).1,fun l vs' hl pv rise=>?_⟩
 obtain ⟨rs',d1,p1⟩:=rows_perm pv hd
 refine q l vs' rs' hl d1 p1 ?_
 have e:=(rows_tupK d1).2
 have p2:(vs'.map (keyV H)).Pairwise (fun a b=>lexLt b a=false):=List.pairwise_map.mpr rise
 rw [e] at p2
 exact List.pairwise_map.mp p2
theorem RowsOk.perm {xs:List Str} {lo:Int} {rs rs':List Row} (h:RowsOk xs lo rs) (p:rs'.Perm rs):RowsOk xs lo rs':=
 ⟨fun r hr=>h.sub r (p.mem_iff.mp hr),(p.map (·.1)).nodup_iff.mpr h.nd,fun r hr=>h.lo r (p.mem_iff.mp hr),by rw [p.length_eq]; exact h.one⟩
def Lim (x:V) (d:PyData):Prop:=(x=.non/\d=.none)\/∃ i:Int,x=.int i/\d=.int i/\1<=i/\i < 10 ^ 30
end L2
namespace L2
open PySem PySem.Spec PyProof.Rows
end L2
namespace L2
open PySem PySem.Spec PySem.W PyProof.Rows
theorem tups_us {X:Cx} {pins:List (Addr × Obj)} {σ:St} {H:Hp} {s:Shared} (I:Inv X pins σ H s) {kd:Nat->Bool}:∀ {vs:List V} {its:List Value},Vals vs its->(∀ v ∈ vs,TupK H kd v)->∀ u ∈ its,TupU s.heap kd u
 | _,_,.nil,_,_,hu=>nomatch hu
 | _,_,.cons r1 r2,hk,u,hu=>by
  rcases List.mem_cons.mp hu with rfl | hu
  ·exact (tup_uv I r1 (hk _ List.mem_cons_self)).1
  ·exact tups_us I r2 (fun v hv=>hk v (List.mem_cons_of_mem _ hv)) u hu
theorem call_sorted_tupsP {X:Cx}:CallR X (.builtin "sorted") (fun xs H Q=>∃ (a:Addr) (vs:List V) (kd:Nat->Bool),xs=[.ref a]/\SqL X.K H a vs/\(∀ v ∈ vs,TupK H kd v) /\
  ∀ (l:Addr) (vs':List V),H l=none->vs'.Perm vs->Q (.ref l) (upd H l (.lst vs'))):=by
 intro pins s σ H xs us Q I r h
 obtain ⟨a,vs,kd,rfl,ha,hk,q⟩:=h
 obtain ⟨u,rfl,ru⟩:=vals1 r
 cases ru
 obtain ⟨its,rv,pl,hz⟩:=I.list ha
 refine sortedP pl.isList (by rw [<-rv.length]; exact hz) (tups_cmpd (tups_us I rv hk)) fun out o1=>?_
 obtain ⟨vs',rv',pv⟩:=vals_perm o1 rv
 obtain ⟨e,he⟩:=sortedAll_at s.heap its out.toArray
 exact ⟨.ref (s.heap.objs.size + 1),_,I.laid (o:=.lst vs') (t':=s.toks) (fun b o z=>sortedAll_old z) (Nat.le_succ _) ⟨by rw [pv.length_eq]; exact hz,out,e,rv',he⟩,rfl,q _ vs' (I.hok.fresh (Nat.le_succ _)) pv⟩
theorem call_sorted_waysP {X:Cx}:CallR X (.builtin "sorted") (fun xs H Q=>∃ (a:Addr) (vs:List V) (ws:List Way),xs=[.ref a]/\SqL X.K H a vs/\Dats H vs (ws.map wayD) /\
  ∀ (l:Addr) (vs':List V) (ws':List Way),H l=none->Dats H vs' (ws'.map wayD)->ws'.Perm ws->Q (.ref l) (upd H l (.lst vs'))):=by
 intro pins s σ H xs us Q I r h
 obtain ⟨a,vs,ws,rfl,ha,hd,q⟩:=h
 refine call_sorted_tupsP pins s σ H _ us Q I r ⟨a,vs,_,rfl,ha,(ways_tupK hd).1,fun l vs' hl pv=>?_⟩
 obtain ⟨ws',d1,p1⟩:=dats_perm pv hd
 exact q l vs' ws' hl d1 p1
end L2
namespace L2
open PySem PySem.Spec PyProof.Rows
end L2
namespace L2
open PySem PySem.Spec PyProof.Rows
theorem tupK {H H':Hp} {p:Addr} (hP:PnAt H p) (k:Keep p H H'):∀ b ys,H b=some (.tup ys)->H' b=some (.tup ys):=fun b ys z=>k b _ (by
 obtain ⟨_,_,_,q⟩:=hP
 exact ne_of z q (fun y=>by cases y)) z
theorem MapAt.keepT {H H':Hp} {m:Addr} {n:Nat} {xs:List Str} {ws:List Way} (h:MapAt H m n xs ws) (t:∀ b ys,H b=some (.tup ys)->H' b=some (.tup ys)):MapAt H' m n xs ws:=by
 obtain ⟨ta,tb,vs,a,b,c,e⟩:=h.ex
 exact ⟨⟨ta,tb,vs,t _ _ a,t _ _ b,t _ _ c,way_dats e t⟩,h.len,h.nd,h.nm,h.wl,h.wn⟩
end L2
namespace L2
open PySem PySem.Spec PyProof.Rows
theorem putK_keys {κ:Type} [DecidableEq κ] {kvs:List (κ × V)} {k:κ} {v:V} (h:(kvs.map (·.1)).Nodup):((putK kvs k v).map (·.1)).Nodup:=by
 unfold putK
 split
 ·rw [List.map_map]
  have e:(kvs.map ((fun x=>x.1) ∘ fun kv=>if kv.1=k then (kv.1,v) else kv))=kvs.map (·.1):=by
   refine List.map_congr_left fun q _=>?_
   show (if q.1=k then (q.1,v) else q).1=q.1
   split <;> rfl
  rw [e]
  exact h
 ·rename_i hn
  rw [List.map_append]
  refine List.nodup_append.mpr ⟨h,by simp,fun a ha b hb e=>?_⟩
  simp only [List.map_cons,List.map_nil,List.mem_singleton] at hb
  subst hb
  obtain ⟨q,hq,rfl⟩:=List.mem_map.mp ha
  exact hn (List.any_eq_true.mpr ⟨q,hq,by simp [e]⟩)
theorem putK_has {κ:Type} [DecidableEq κ] (kvs:List (κ × V)) (k:κ) (v:V):(k,v) ∈ putK kvs k v:=by
 unfold putK
 split
 ·rename_i h
  obtain ⟨q,hq,e⟩:=List.any_eq_true.mp h
  have e':q.1=k:=by simpa using e
  exact List.mem_map.mpr ⟨q,hq,by rw [if_pos e',e']⟩
 ·simp
theorem putK_stay {κ:Type} [DecidableEq κ] {kvs:List (κ × V)} {k k':κ} {v v':V} (h:(k',v') ∈ kvs):∃ v'',(k',v'') ∈ putK kvs k v:=by
 by_cases z:k'=k
 ·subst z
  exact ⟨v,putK_has kvs _ v⟩
 ·refine ⟨v',?_⟩
  unfold putK
  split
  ·exact List.mem_map.mpr ⟨_,h,by rw [if_neg z]⟩
  ·exact List.mem_append_left _ h
def JoinN (j:Int) (kvs:List (List Key × V)):Prop:=∀ k:Int,1<=k->k < j->∃ (i:Int) (v:V),0<=i/\i < k/\([Sum.inl i,Sum.inl k],v) ∈ kvs
theorem JoinN.put {j:Int} {kvs:List (List Key × V)} (h:JoinN j kvs) (q:List Key) (v:V):JoinN j (putK kvs q v):=fun k h1 h2=>by
 obtain ⟨i,w,a,b,c⟩:=h k h1 h2
 obtain ⟨w',e⟩:=putK_stay (k:=q) (v:=v) c
 exact ⟨i,w',a,b,e⟩
theorem JoinN.more {j i:Int} {kvs:List (List Key × V)} (h:JoinN j kvs) (v:V) (i0:0<=i) (ij:i < j):JoinN (j + 1) (putK kvs [Sum.inl i,Sum.inl j] v):=fun k h1 h2=>by
 by_cases z:k < j
 ·exact h.put _ v k h1 z
 ·have:k=j:=by (first|lia|omega)
  subst this
  exact ⟨i,v,i0,ij,putK_has _ _ _⟩
def wayOf (xs:List Str) (q:List Key × V):Way:=match q with
 | ([Sum.inl i,Sum.inl j],.int l)=>(xs.getD i.toNat ⟨#[]⟩,xs.getD j.toNat ⟨#[]⟩,l)
 | _=>(⟨#[]⟩,⟨#[]⟩,0)
theorem wayOf_eq {xs:List Str} {i j l:Int} {x y:Str} (hx:xs[i.toNat]? = some x) (hy:xs[j.toNat]? = some y):wayOf xs ([Sum.inl i,Sum.inl j],.int l)=(x,y,l):=by
 show (xs.getD i.toNat _,xs.getD j.toNat _,l)=_
 rw [List.getD_eq_getElem?_getD,List.getD_eq_getElem?_getD,hx,hy]
 rfl
theorem ways_drawn {xs:List Str} {kvs:List (List Key × V)} (xnd:xs.Nodup) (wn:WaysN xs.length kvs) (kn:(kvs.map (·.1)).Nodup) (jn:JoinN xs.length kvs):WaysC xs (kvs.map (wayOf xs)):=by
 have at':∀ q ∈ kvs,∃ (i j l:Int) (x y:Str),q=([Sum.inl i,Sum.inl j],.int l)/\0<=i/\i < j/\j < xs.length/\1<=l/\xs[i.toNat]? = some x/\xs[j.toNat]? = some y/\wayOf xs q=(x,y,l):=by
  intro q hq
  obtain ⟨i,j,l,rfl,a,b,c,d,_⟩:=wn q hq
  have hx:xs[i.toNat]? = some xs[i.toNat]:=List.getElem?_eq_getElem (by (first|lia|omega))
  have hy:xs[j.toNat]? = some xs[j.toNat]:=List.getElem?_eq_getElem (by (first|lia|omega))
  exact ⟨i,j,l,_,_,rfl,a,b,c,d,hx,hy,wayOf_eq hx hy⟩
 refine ⟨fun u hu=>?_,?_,fun j j0 j1=>?_⟩
 ·obtain ⟨q,hq,rfl⟩:=List.mem_map.mp hu
  obtain ⟨i,j,l,x,y,rfl,a,b,c,d,hx,hy,e⟩:=at' q hq
  rw [e]
  refine ⟨List.mem_of_getElem? hx,List.mem_of_getElem? hy,fun z=>?_,d⟩
  have z':x=y:=z
  rw [z'] at hx
  have:=nd_get xnd hx hy
  (first|lia|omega)
 ·rw [List.pairwise_map]
  have kp:kvs.Pairwise fun a b=>a.1 ≠ b.1:=List.pairwise_map.mp kn
  refine kp.imp_of_mem fun {p q} hp hq ne al=>?_
  obtain ⟨i,j,l,x,y,rfl,a,b,c,d,hx,hy,e⟩:=at' p hp
  obtain ⟨i',j',l',x',y',rfl,a',b',c',d',hx',hy',e'⟩:=at' q hq
  rw [e,e'] at al
  apply ne
  rcases al with ⟨z1,z2⟩ | ⟨z1,z2⟩
  ·have z1':x=x':=z1
   have z2':y=y':=z2
   subst z1' z2'
   have r1:=nd_get xnd hx hx'
   have r2:=nd_get xnd hy hy'
   have r1':i=i':=by (first|lia|omega)
   have r2':j=j':=by (first|lia|omega)
   rw [r1',r2']
  ·have z1':x=y':=z1
   have z2':y=x':=z2
   subst z1' z2'
   have r1:=nd_get xnd hx hy'
   have r2:=nd_get xnd hy hx'
   (first|lia|omega)
 ·obtain ⟨i,v,i0,i1,hm⟩:=jn j (by (first|lia|omega)) (by (first|lia|omega))
  obtain ⟨i',j',l,x,y,e0,a,b,c,d,hx,hy,e⟩:=at' _ hm
  cases e0
  refine ⟨_,List.mem_map.mpr ⟨_,hm,rfl⟩,i.toNat,by (first|lia|omega),?_,?_⟩
  ·rw [e]; exact hx
  ·rw [e]
   rw [show j=(j:Int).toNat by (first|lia|omega)]
   exact hy
theorem two_sorted {x y x' y':Str} (p:[x',y'].Perm [x,y]) (h:sortedS [x',y']=true):x'=minS x y/\y'=maxS x y:=by
 have h1:=sorted_pw h
 have h2:[minS x y,maxS x y].Pairwise fun a b=>¬ b.cps.toList < a.cps.toList:=by
  refine List.pairwise_pair.mpr ?_
  unfold minS maxS
  by_cases a:y.cps.toList < x.cps.toList
  ·rw [if_pos a,if_neg (fun z=>lt_irr _ (List.lt_trans a z))]
   exact fun z=>lt_irr _ (List.lt_trans a z)
  ·rw [if_neg a]
   by_cases b:x.cps.toList < y.cps.toList
   ·rw [if_pos b]
    exact a
   ·rw [if_neg b]
    exact lt_irr _
 have p2:[minS x y,maxS x y].Perm [x,y]:=by
  unfold minS maxS
  by_cases a:y.cps.toList < x.cps.toList
  ·rw [if_pos a,if_neg (fun z=>lt_irr _ (List.lt_trans a z))]
   exact .swap _ _ _
  ·rw [if_neg a]
   by_cases b:x.cps.toList < y.cps.toList
   ·rw [if_pos b]
   ·rw [if_neg b]
    have e:x=y:=str_anti a b
    rw [e]
 have e:=sorted_eq h1 h2 (p.trans p2.symm)
 simp only [List.cons.injEq,and_true] at e
 exact e
structure MapW (H:Hp) (m:Addr) (n:Nat) (ps:List Str) (ws:List Way):Prop where
 at':MapAt H m n ps ws
 dr:∃ (xs:List Str) (ws0:List Way),ps.Perm xs/\ws.Perm (ws0.map norm)/\WaysC xs ws0
 so:sortedS ps=true
 l64:ws.length < 64
def spMapW:Sp:=fun vs H Q _=>∃ (p:Addr) (n:Nat),vs=[.ref p,.int n]/\PnAt H p/\1<=n/\n<=30 /\
 ∀ (H':Hp) (m:Addr) (xs:List Str) (ws:List Way),PnAt H' p->Keep p H H'->MapW H' m n xs ws->Q (.ref m) H'
theorem MapW.web {H:Hp} {m:Addr} {n:Nat} {ps:List Str} {ws:List Way} (h:MapW H m n ps ws) (n1:1<=n) (n30:n<=30) :
  ∃ r,WebOk H m ps ws r/\(∀ u ∈ ws,1<=u.2.2)/\(∀ x y l l',Edge ws x y l->Edge ws x y l'->l=l'):=by
 obtain ⟨xs,ws0,pp,wp,wof,sep,jn⟩:=h.dr
 have pl:0 < ps.length:=by rw [h.at'.len]; (first|lia|omega)
 have hr0:ps[0] ∈ xs:=pp.mem_iff.mp (List.getElem_mem pl)
 have en:=fun x y l=>edge_norm wp x y l
 refine ⟨ps[0],⟨⟨h.at'.ex⟩,h.at'.nd,by rw [h.at'.len]; (first|lia|omega),h.l64,fun u hu=>?_,List.getElem?_eq_getElem pl,fun Sp hs hcl z hz=>?_⟩,fun u hu=>(h.at'.wn u hu).2.2.1,fun x y l l' e1 e2=>edge_uniq sep ((en x y l).mp e1) ((en x y l').mp e2)⟩
 ·obtain ⟨q1,q2⟩:=ends_norm wp (fun u hu=>⟨(wof u hu).1,(wof u hu).2.1⟩) u hu
  exact ⟨pp.mem_iff.mpr q1,pp.mem_iff.mpr q2⟩
 ·exact Joined.all jn Sp (fun b c hbc=>hcl b c ((adj_norm wp b c).mpr hbc)) hr0 hs z (pp.mem_iff.mp hz)
end L2
namespace L2
open PySem PySem.Spec PyProof.Rows
theorem keys_one {κ:Type} {kvs:List (κ × V)} (h:(kvs.map (·.1)).Nodup) {k:κ} {v v':V} (a:(k,v) ∈ kvs) (b:(k,v') ∈ kvs):v=v':=by
 induction kvs with
 | nil=>exact nomatch a
 | cons p r ih=>
  rw [List.map_cons,List.nodup_cons] at h
  rcases List.mem_cons.mp a with a | a
  ·rcases List.mem_cons.mp b with b | b
   ·rw [<-a] at b
    exact (Prod.mk.inj b).2.symm
   ·exact absurd (List.mem_map.mpr ⟨_,b,by rw [<-a]⟩) h.1
  ·rcases List.mem_cons.mp b with b | b
   ·exact absurd (List.mem_map.mpr ⟨_,a,by rw [<-b]⟩) h.1
   ·exact ih h.2 a b
end L2
namespace L2
open PySem PySem.Spec PyProof.Rows
end L2
namespace L2
open PySem PySem.Spec PyProof.Rows
theorem keys_of_tuple:typeLookup (.type "tuple") "keys"=pure none:=by rw [typeLookup_type,builtinLookup_eq_fast]; kernel_rfl
theorem tupQ_miss {prog:Program} {w:World} {A:Around} {E:Value->Shared->Prop} {s:Shared} {a:Addr} {o:Obj} {xs:Array Value} {k:Nat} {Q:Option Value->Shared->Prop}
  (hx:s.heap.get? a=some o) (hc:o.cls=.type "tuple") (hdat:o.data=.seq xs k) (hd:o.dict=none) (hA:A.handled=none)
  (h:∀ h' tk,(∀ b ob,s.heap.get? b=some ob->h'.get? b=some ob)->Q none { s with heap:=h',toks:=tk }):wpAny (model prog w) A (getAttr? (.ref a) "keys") Q E s:=by
 obtain ⟨c,dct,dat,sl⟩:=o
 simp only at hc hdat hd
 subst hc hdat hd
 obtain ⟨hp,g,d,tk,os⟩:=s
 have hT:∀ tk',(⟨hp,g,d,tk',os⟩:Shared).TypeIs (.ref a) "tuple":=fun _=>⟨_,hx,rfl⟩
 have f1:=sub_AttributeError
 have f3:=F.slot_tuple_getattribute.lookup
 have f4:=F.slot_tuple_getattribute.bind (.ref a)
 have f5:=am_tuple_getattr_none
 unfold getAttr? getAttrBy? getAttrBy
 repeat (any_goals (first | assumption | exact hT _ | ((with_reducible show wpAny _ _ (call (Value.builtin "tuple.__getattribute__") _ _) _ _ _); refine call_meets F.slot_tuple_getattribute (hT _) am_entry_tuple_getattribute (F.args_tuple_getattribute_2 _ _) (meets_getattribute_miss_tuple a xs k sl "keys" _ keys_of_tuple (by decide +kernel) (by decide +kernel)) ⟨hx,hA,fun h' tk' e hx'=>?_⟩) | wp_step))
 obtain ⟨t',u',he⟩:=hx'.there
 show wpAny _ _ (getattributeRaised _ _ _ _ _ _ _) _ _ _
 unfold getattributeRaised
 have hE:∀ tk',(⟨h',g,d,tk',os⟩:Shared).TypeIs (.ref e) "AttributeError":=fun _=>⟨_,he,rfl⟩
 repeat (any_goals (first | assumption | exact hE _ | wp_step))
 exact h _ _ hx'.keeps
section
variable {prog:Program} {w:World} {A:Around} {R:Result->Shared->Prop} {g0:Heap} {D it l:Addr} {vs:List Value} {ps:List (Str × V)}
theorem upd_loopT (hh:A.handled=none) (nI:it ≠ D) (nl:l ≠ it/\l ≠ D) (g1:∀ b o,g0.get? b=some o->b ≠ it/\b ≠ D) (hl:vs.length=ps.length) (rows:∀ (i:Nat) v p,vs[i]? = some v->ps[i]? = some p->RowAt g0 v p) (hsz:ps.length < sizeLine) :
  ∀ (m i:Nat) (s:Shared) (kvs:List (Key × V)) (us:List (Key × Value)),ps.length - i=m->i<=ps.length->s.heap.IsTupleIter it l i->s.heap.IsTuple l vs.toArray->KV kvs us->kvs.length<=i->s.heap.DictOf (mixKind prog w) D us->(∀ b o,g0.get? b=some o->s.heap.get? b=some o) ->
   (∀ h' tk us',KV (mergeK kvs (sK (ps.drop i))) us'->h'.DictOf (mixKind prog w) D us'->(∀ b o,b ≠ it->b ≠ D->s.heap.get? b=some o->h'.get? b=some o)->R (.ok (.ret .none)) { s with heap:=h',toks:=tk }) ->
   codeAny (model prog w) A (.builtin "dict.update.loop" ⟨[.ref D,.ref it,.int (i:Int) 0,.none],[]⟩) R s:=by
 intro m
 induction m with
 | zero=>
  intro i s kvs us hm hi st hL kv kl dd gk r
  have e:i=ps.length:=by (first|lia|omega)
  refine codeAny_builtin entry_upd_loop ?_
  rw [Around.under_plainId plain_upd_loop _]
  unfold Builtin.«dict.update.loop»
  refine wpAny_bind (wpAny_pyNext_tuple_end hh st hL (by simp; (first|lia|omega)) fun h' eb=>?_)
  refine wpAny_bind (wpAny_pure (wpAny_pure ?_))
  have dd':h'.DictOf (mixKind prog w) D us:=dd.at fun o q=>eb D o (Ne.symm nI) q
  refine r h' s.toks us ?_ dd' fun b o b1 b2 q=>eb b o b1 q
  rw [e,List.drop_length]
  exact kv
 | succ m ih=>
  intro i s kvs us hm hi st hL kv kl dd gk r
  have hlt:i < ps.length:=by (first|lia|omega)
  have ev:vs[i]? = some (vs[i]'(by (first|lia|omega))):=List.getElem?_eq_getElem (by (first|lia|omega))
  have ep:ps[i]? = some ps[i]:=List.getElem?_eq_getElem hlt
  obtain ⟨a,t,u,e1,ht,ru⟩:=rows i _ _ ev ep
  rw [e1] at ev
  refine codeAny_builtin entry_upd_loop ?_
  rw [Around.under_plainId plain_upd_loop _]
  unfold Builtin.«dict.update.loop»
  refine wpAny_bind (wpAny_pyNext_tuple_item st hL (x:=.ref a) (by simpa using ev) fun h' st' sb=>?_)
  obtain ⟨o,ho,hc,n,hd⟩:=id ht
  have ha:=(sb.2 a (g1 a o ho).1).trans (gk a o ho)
  have dd':h'.DictOf (mixKind prog w) D us:=dd.at fun o q=>(sb.2 D (Ne.symm nI)).trans q
  have L':h'.IsTuple l vs.toArray:=by
   obtain ⟨ol,hol,rl⟩:=hL
   exact ⟨ol,(sb.2 l nl.1).trans hol,rl⟩
  refine wpAny_bind (wpAny_holding ?_)
  refine wpAny_bind (wpAny_tryCatch ?_)
  unfold Builtin.Dict.pairItems
  refine wpAny_bind (wpAny_typeOf (T:="tuple") ⟨o,ha,hc⟩ ?_)
  rw [if_pos (by decide)]
  refine wpAny_bind (wpAny_seqItems ha hd (wpAny_pure ?_))
  show wpAny _ A.in1 (holding [Value.str ps[i].1 t,u] (dictSet D (Value.str ps[i].1 t) u)) _ _ _
  have us64:us.length<=sizeLine:=by rw [<-kv.length]; (first|lia|omega)
  refine wpAny_holding (wpAny_dictSet_pairs (k:=Sum.inr ps[i].1) (hsz:=us64) (mixKind_str prog w _ t) dd' fun h2 dd2 sb2=>?_)
  have ki:((i:Int) + 1)=((i + 1:Nat):Int):=by (first|lia|omega)
  refine wpAny_pure ⟨plainId_quiet plain_upd_loop _,?_⟩
  show codeAny (model prog w) A (.builtin "dict.update.loop" ⟨[.ref D,.ref it,.int ((i:Int) + 1) 0,.none],[]⟩) R _
  rw [ki]
  have kl2:=length_putK kvs (Sum.inr ps[i].1:Key) ps[i].2
  have it2:h2.IsTupleIter it l (i + 1):=by
   obtain ⟨oi,hoi,ri⟩:=st'
   exact ⟨oi,(sb2.2 it nI).trans hoi,ri⟩
  refine ih (i + 1) _ (putK kvs (Sum.inr ps[i].1) ps[i].2) _ (by (first|lia|omega)) hlt it2 ?_ (kv.put (Sum.inr ps[i].1) ru) (by (first|lia|omega)) dd2 (fun b ob q=>(sb2.2 b (g1 b ob q).2).trans ((sb.2 b (g1 b ob q).1).trans (gk b ob q))) fun h3 tk3 us3 kv3 dd3 k3=>?_
  ·obtain ⟨ol,hol,rl⟩:=L'
   exact ⟨ol,(sb2.2 l nl.2).trans hol,rl⟩
  ·refine r h3 tk3 us3 ?_ dd3 fun b ob b1 b2 q=>k3 b ob b1 b2 ((sb2.2 b b2).trans ((sb.2 b b1).trans q))
   have ed:ps.drop i=ps[i] :: ps.drop (i + 1):=(List.drop_eq_getElem_cons hlt)
   rw [ed]
   exact kv3
end
section
variable {prog:Program} {w:World} {A:Around} {E:Value->Shared->Prop} {s:Shared}
theorem call_dict_tuple {l:Addr} {vs:List Value} {ps:List (Str × V)} {Q:Value->Shared->Prop} (hh:A.handled=none) {ol:Obj} {nl:Nat} (hl:s.heap.get? l=some ol) (hc:ol.cls=.type "tuple") (hd:ol.data=.seq vs.toArray nl) (hdc:ol.dict=none)
  (hlen:vs.length=ps.length) (rows:∀ (i:Nat) v p,vs[i]? = some v->ps[i]? = some p->RowAt s.heap v p) (hsz:ps.length < sizeLine)
  (h:∀ h' tk us,KV (mergeK [] (sK ps)) us->h'.DictOf (mixKind prog w) s.heap.objs.size us->(∀ b o,s.heap.get? b=some o->h'.get? b=some o)->Q (.ref s.heap.objs.size) { s with heap:=h',toks:=tk }):wpAny (model prog w) A (call (.type "dict") [.ref l]) Q E s:=by
 refine callType_codes (Q₁:=fun obj s₁=>obj=.ref s.heap.objs.size/\s₁ = { s with heap:=s.heap.push { cls:=.type "dict",data:=.dict #[] } }) F.kt_called_dict (F.kt_typeCall_dict_1 _) F.entry_dict_init (kt_code_dict_new _ ⟨rfl,rfl⟩) ?_
 rintro obj s₁ ⟨rfl,rfl⟩
 have hnew:(s.heap.push { cls:=.type "dict",data:=.dict #[] }).DictOf (mixKind prog w) s.heap.objs.size []:=Heap.DictOf.new s.heap
 have hl1:(s.heap.push { cls:=.type "dict",data:=.dict #[] }).get? l=some ol:=Heap.get?_push_of_some _ hl
 refine ⟨hnew.typeIs,F.args_dict_init_2 _ _,?_⟩
 unfold Builtin.«dict.__init__»
 refine wpAny_bind ?_
 unfold Builtin.Dict.selfAndRest
 refine wpAny_bind (wpAny_notOrdered_dict hnew.typeIs ?_)
 show wpAny _ _ (pure (s.heap.objs.size,[Value.ref l])) _ _ _
 refine wpAny_pure ?_
 show wpAny _ _ (Builtin.Dict.updateFrom "dict.__init__" s.heap.objs.size (.ref l) [] .none) _ _ _
 unfold Builtin.Dict.updateFrom
 refine wpAny_bind (wpAny_typeOf (T:="tuple") ⟨ol,hl1,hc⟩ ?_)
 rw [if_pos (by decide)]
 refine wpAny_bind (tupQ_miss hl1 hc hd hdc hh fun h1 tk1 k1=>?_)
 simp only [Option.isNone_none,if_true]
 refine wpAny_bind (wpAny_rule ?_)
 have hl2:h1.IsTuple l vs.toArray:=⟨ol,k1 _ _ hl1,hc,nl,hd⟩
 refine wpAny_bind (wpAny_pyIter_tuple hl2 ?_)
 have old:∀ b o,s.heap.get? b=some o->h1.get? b=some o:=fun b o q=>k1 b o (Heap.get?_push_of_some _ q)
 obtain ⟨od,esd,epd,hod,rd⟩:=id hnew
 have hD1:=k1 _ _ hod
 have ltD:=Heap.lt_size hD1
 have ltl:=Heap.lt_size (k1 _ _ hl1)
 refine wpAny_pure ⟨plainId_quiet plain_upd_loop _,?_⟩
 refine upd_loopT (A:=A.in1) (g0:=s.heap) (D:=s.heap.objs.size) (it:=h1.objs.size) (l:=l) (vs:=vs) (ps:=ps) hh (Nat.ne_of_gt ltD) ⟨Nat.ne_of_lt ltl,Nat.ne_of_lt (Heap.lt_size hl)⟩ (fun b o q=>⟨Nat.ne_of_lt (Heap.lt_size (old b o q)),Nat.ne_of_lt (Heap.lt_size q)⟩) hlen rows hsz _ 0 { s with heap:=h1.push { cls:=.type "tuple_iterator",data:=.fields #[.ref l,.int 0 0] },toks:=tk1 } [] [] rfl (Nat.zero_le _)
  ⟨_,Heap.get?_push_size _ rfl,rfl,rfl⟩ (hl2.push _) .nil (Nat.le_refl _) ⟨od,esd,epd,Heap.get?_push_of_some _ hD1,rd⟩ (fun b o q=>Heap.get?_push_of_some _ (old b o q)) fun h' tk us kv dd kk=>?_
 rw [List.drop_zero] at kv
 exact ⟨rfl,h h' tk us kv dd fun b o q=>kk b o (Nat.ne_of_lt (Heap.lt_size (old b o q))) (Nat.ne_of_lt (Heap.lt_size q)) (Heap.get?_push_of_some _ (old b o q))⟩
end
theorem call_dict_pairsT {X:Cx} (hc:X.calm=true):CallR X (.type "dict") (fun xs H Q=>∃ (a:Addr) (vs:List V) (ps:List (Str × V)),xs=[.ref a]/\H a=some (.tup vs)/\vs.length=ps.length/\(∀ (i:Nat) v p,vs[i]? = some v->ps[i]? = some p->∃ t,v=.ref t/\H t=some (.tup [.str p.1,p.2]))/\(ps.map (·.1)).Nodup/\ps.length < 1000 /\
  ∀ D,H D=none->Q (.ref D) (upd H D (.dK (sK ps)))):=by
 intro pins s σ H xs us Q I r h
 obtain ⟨a,vs,ps,rfl,ha,hl,hk,hn,h1000,q⟩:=h
 obtain ⟨u,rfl,ru⟩:=vals1 r
 cases ru
 obtain ⟨hz,its,rv,⟨o,ho,hc',n,hdat⟩,dn⟩:=(show ObjOk X.prog X.w H s.heap a (.tup vs) from I.hok a _ ha)
 have hd':=dn o ho
 have il:its.length=ps.length:=by rw [<-rv.length,hl]
 have big:1000 < sizeLine:=by decide
 refine call_dict_tuple (I.ok.hd hc) (ps:=ps) ho hc' hdat hd' il (fun i v p e1 e2=>?_) (by (first|lia|omega)) fun h' tk us kv dd kk=>?_
 ·have hi:i < its.length:=(List.getElem?_eq_some_iff.mp e1).1
  have e3:vs[i]? = some vs[i]:=List.getElem?_eq_getElem (by (first|lia|omega))
  obtain ⟨v',e4,r4⟩:=rv.get e3
  rw [e1] at e4
  cases e4
  obtain ⟨t,e5,ht⟩:=hk i _ p e3 e2
  rw [e5] at r4
  cases r4
  obtain ⟨its2,rv2,pl2,_⟩:=I.tuple (SqT.of ht)
  cases rv2 with
  | cons x1 y1=>
   cases y1 with
   | cons x2 y2=>
    cases y2
    obtain ⟨t1,rfl⟩:=x1
    exact ⟨t,t1,_,rfl,pl2,x2⟩
 ·have em:mergeK [] (sK ps)=sK ps:=merge_sK ps [] (by simpa using hn)
  rw [em] at kv
  refine ⟨.ref s.heap.objs.size,_,I.laid (a:=s.heap.objs.size) (o:=.dK (sK ps)) (t':=tk) kk (Nat.le_refl _) (dk_new (by rw [sK_len]; (first|lia|omega)) (beq_eq_false_iff_ne.mpr (Ne.symm (Nat.ne_of_lt I.big))) kv dd),rfl,q _ (I.hok.fresh (Nat.le_refl _))⟩
end L2
namespace L2
open PySem PySem.Spec PyProof.Rows
structure CaseW (H:Hp) (c m:Addr) (n:Nat) (xs:List Str) (ws:List Way) (rs1 rs2:List Row) (x:V) (d:PyData):Prop where
 ex:∃ (t1 t2:Addr) (us1 us2:List V),H c=some (.tup [.ref m,.ref t1,.ref t2,x])/\H t1=some (.tup us1)/\Dats H us1 (rs1.map rowD)/\H t2=some (.tup us2)/\Dats H us2 (rs2.map rowD)
 map:MapW H m n xs ws
 n1:1<=n
 n30:n<=30
 ok1:RowsOk xs 0 rs1
 ok2:RowsOk xs 1 rs2
 l1:rs1.length<=10
 l2:rs2.length<=30
 lim:Lim x d
theorem MapW.keepT {H H':Hp} {m:Addr} {n:Nat} {xs:List Str} {ws:List Way} (h:MapW H m n xs ws) (t:∀ b ys,H b=some (.tup ys)->H' b=some (.tup ys)):MapW H' m n xs ws:=⟨h.at'.keepT t,h.dr,h.so,h.l64⟩
theorem CaseW.keepT {H H':Hp} {c m:Addr} {n:Nat} {xs:List Str} {ws:List Way} {rs1 rs2:List Row} {x:V} {d:PyData} (h:CaseW H c m n xs ws rs1 rs2 x d) (t:∀ b ys,H b=some (.tup ys)->H' b=some (.tup ys)):CaseW H' c m n xs ws rs1 rs2 x d:=by
 obtain ⟨t1,t2,us1,us2,a,b,e,f,g⟩:=h.ex
 exact ⟨⟨t1,t2,us1,us2,t _ _ a,t _ _ b,row_dats e t,t _ _ f,row_dats g t⟩,h.map.keepT t,h.n1,h.n30,h.ok1,h.ok2,h.l1,h.l2,h.lim⟩
theorem CaseW.same {H H':Hp} {c m:Addr} {n:Nat} {xs:List Str} {ws:List Way} {rs1 rs2:List Row} {x:V} {d:PyData} (h:CaseW H c m n xs ws rs1 rs2 x d) (s:Same H H'):CaseW H' c m n xs ws rs1 rs2 x d:=h.keepT fun b ys z=>s _ _ z
def rowP (rs:List Row):List (Str × V):=rs.map fun r=>(r.1,.int r.2)
theorem rowP_keys (rs:List Row):(rowP rs).map (·.1)=rs.map (·.1):=by unfold rowP; rw [List.map_map]; rfl
theorem rowP_at {H:Hp} {us:List V} {rs:List Row} (h:Dats H us (rs.map rowD)):∀ (i:Nat) v p,us[i]? = some v->(rowP rs)[i]? = some p->∃ t,v=.ref t/\H t=some (.tup [.str p.1,p.2]):=fun i v p e1 e2=>by
 obtain ⟨u,t,eu,rfl,ht⟩:=dats_row h e1
 unfold rowP at e2
 rw [List.getElem?_map,eu] at e2
 cases e2
 exact ⟨t,rfl,ht⟩
end L2
namespace L2
open PySem PySem.Spec PyProof.Rows
end L2
namespace L2
open PySem PySem.Spec PyProof.Rows
section
variable {prog:Program} {w:World} {A:Around} {E:Value->Shared->Prop} {s:Shared}
end
section
variable {prog:Program} {w:World} {A:Around} {E:Value->Shared->Prop} {s:Shared}
end
end L2
namespace L2
open PySem PySem.Spec PyProof.Rows
end L2
namespace L2
open PySem PySem.Spec PyProof.Rows
end L2
namespace L2
open PySem PySem.Spec PyProof.Rows
end L2
namespace L2
open PySem PySem.Spec PyProof.Rows
theorem read_filter {J:It} {xs:List V} {S:Hp->Prop} {g:TG} {tt:TT} {te:TE} {H:Hp} {σ0:St} {R:Addr->Hp->Prop} (ov:Over J xs S) (I:Addr->Nat->St->Hp->List V->Prop) (big:xs.length < sizeLine)
  (h0:∀ D,H D=none->I D 0 σ0 (upd H D (.lst [])) [])
  (hs:∀ D i σ H' acc,H D=none->I D i σ H' acc->S H'/\H' D=some (.lst acc)/\acc.length<=i)
  (turn:∀ D i σ H' acc x (B:St->V->Hp->Prop) (N:St->Hp->Prop),H D=none->xs[i]? = some x->I D i σ H' acc->(∀ σ2 v H5,H5 D=some (.lst acc)->I D (i + 1) σ2 (upd H5 D (.lst (acc ++ [v]))) (acc ++ [v])->B σ2 v H5) ->
   (∀ σ2 H4,I D (i + 1) σ2 H4 acc->N σ2 H4)->g x σ H' fun σ2 H3=>tt σ2 H3 fun b H4=>if b=true then te σ2 H4 (B σ2) else N σ2 H4)
  (fin:∀ D σ H' acc,H D=none->I D xs.length σ H' acc->R D H') :
  ∀ D,H D=none->∃ W:Nat->Nat->St->Hp->Prop,(∃ m,W 0 m σ0 (upd H D (.lst []))) /\
   ∀ i m σ' H',W i m σ' H'->(J.stop i H'/\R D H')\/(J.go i H'/\∀ x H2,J.yld i H' x H2->g x σ' H2 fun σ2 H3=>tt σ2 H3 fun b H4=>
    if b=true then te σ2 H4 (fun v H5=>∃ acc,H5 D=some (.lst acc)/\acc.length < sizeLine/\∃ m',m' < m/\W (i + 1) m' σ2 (upd H5 D (.lst (acc ++ [v])))) else ∃ m',m' < m/\W (i + 1) m' σ2 H4):=by
 intro D hD
 refine ⟨fun i m σ H'=>m=xs.length - i/\i<=xs.length/\∃ acc,I D i σ H' acc,⟨xs.length,rfl,Nat.zero_le _,[],h0 D hD⟩,?_⟩
 rintro i m σ H' ⟨rfl,hi,acc,p⟩
 obtain ⟨s1,s2,s3⟩:=hs D i σ H' acc hD p
 by_cases hlt:i < xs.length
 ·refine .inr ⟨ov.go i H' s1 hlt,fun x H2 y=>?_⟩
  obtain ⟨rfl,ex⟩:=ov.yld i H' x H2 s1 y
  refine turn D i σ H2 acc x (fun σ2 v H5=>∃ acc,H5 D=some (.lst acc)/\acc.length < sizeLine/\∃ m',m' < xs.length - i/\(m'=xs.length - (i + 1)/\i + 1<=xs.length/\∃ acc',I D (i + 1) σ2 (upd H5 D (.lst (acc ++ [v]))) acc')) (fun σ2 H4=>∃ m',m' < xs.length - i/\(m'=xs.length - (i + 1)/\i + 1<=xs.length/\∃ acc',I D (i + 1) σ2 H4 acc')) hD ex p (fun σ2 v H5 d5 p5=>?_) fun σ2 H4 p4=>?_
  ·exact ⟨acc,d5,by (first|lia|omega),xs.length - (i + 1),by (first|lia|omega),rfl,hlt,_,p5⟩
  ·exact ⟨xs.length - (i + 1),by (first|lia|omega),rfl,hlt,_,p4⟩
 ·have e:i=xs.length:=by (first|lia|omega)
  subst e
  exact .inl ⟨ov.stop H' s1,fin D σ H' acc hD p⟩
end L2
namespace L2
open PySem PySem.Spec PyProof.Rows
end L2
namespace L2
open PySem PySem.Spec PyProof.Rows
end L2
namespace L2
open PySem PySem.Spec PyProof.Rows
end L2
namespace L2
open PySem PySem.Spec PyProof.Rows
theorem mro_reversed:mroOf (.type "reversed")=pure [.type "reversed",.type "object"]:=by rw [mroOf_type]; kernel_rfl
theorem lookup_reversed_new:typeLookup (.type "reversed") "__new__"=pure (some (.builtin "reversed.__new__")):=by rw [typeLookup_type,builtinLookup_eq_fast]; kernel_rfl
theorem typeCall_reversed_1 (a:Value):checkTypeCall "reversed" ⟨[a],[]⟩=pure ():=by kernel_rfl
theorem newCall_reversed_1 (a:Value):checkBuiltinCall "reversed.__new__" ⟨[.type "reversed",a],[]⟩=pure ():=by kernel_rfl
theorem entry_reversed_new:entryFor table "reversed.__new__"=some Builtin.«reversed.__new__»:=entryFor_of_tree (by kernel_rfl)
theorem entry_reversed_next:entryFor table "reversed.__next__"=some Builtin.«reversed.__next__»:=entryFor_of_tree (by kernel_rfl)
theorem sub_reversed:isSubtype (.type "reversed") (.type "reversed")=pure true:=by rw [isSubtype_type]; kernel_rfl
theorem rev_of_tuple:typeLookup (.type "tuple") "__reversed__"=pure none:=by rw [typeLookup_type,builtinLookup_eq_fast]; kernel_rfl
theorem slot_reversed_init:Slot "reversed" "__init__" "object.__init__":=
 .of (owner:="object") (n:="__init__") (by rw [typeLookup_type,builtinLookup_eq_fast]; kernel_rfl) (by decide +kernel) (by decide +kernel) (by decide +kernel)
  (by first | exact .inl (by decide +kernel) | exact .inr (by decide +kernel)) (by rw [isSubtype_type]; kernel_rfl)
theorem slot_reversed_iter:Slot "reversed" "__iter__" "reversed.__iter__":=
 .of (owner:="reversed") (n:="__iter__") (by rw [typeLookup_type,builtinLookup_eq_fast]; kernel_rfl) (by decide +kernel) (by decide +kernel) (by decide +kernel)
  (by first | exact .inl (by decide +kernel) | exact .inr (by decide +kernel)) (by rw [isSubtype_type]; kernel_rfl)
theorem slot_reversed_next:Slot "reversed" "__next__" "reversed.__next__":=
 .of (owner:="reversed") (n:="__next__") (by rw [typeLookup_type,builtinLookup_eq_fast]; kernel_rfl) (by decide +kernel) (by decide +kernel) (by decide +kernel)
  (by first | exact .inl (by decide +kernel) | exact .inr (by decide +kernel)) (by rw [isSubtype_type]; kernel_rfl)
theorem args_reversed_next (a:Value):argsOk "reversed.__next__" ⟨[a],[]⟩:=by unfold argsOk; kernel_rfl
theorem args_reversed_iter (a:Value):argsOk "reversed.__iter__" ⟨[a],[]⟩:=by unfold argsOk; kernel_rfl
theorem called_reversed:TypeCalled "reversed" "reversed.__new__" "object.__init__":=
 ⟨by decide +kernel,by decide +kernel,⟨_,_,mro_reversed⟩,madeBy_type mro_reversed lookup_reversed_new (by decide +kernel),by decide +kernel,by rw [isSubtype_type]; kernel_rfl,slot_reversed_init⟩
theorem entry_reversed_iter:entryFor table "reversed.__iter__"=some Builtin.«dict_keyiterator.__iter__»:=
 entryFor_alias (id':="dict_keyiterator.__iter__") (by kernel_rfl) (by first | rfl | decide +kernel | (unfold String.splitOn; simp +decide [String.splitOnAux])) (by decide +kernel) (by kernel_rfl)
end L2
namespace L2
open PySem PySem.Spec PyProof.Rows
theorem meets_reversed_new (t:Addr) (items:Array Value) (hsz:(items.size:Int) < 2 ^ 63) :
  Meets (Builtin.«reversed.__new__» ⟨[.type "reversed",.ref t],[]⟩) (fun _ R s=>s.heap.IsTuple t items /\
   ∀ tk,R (.ok (.ret (.ref s.heap.objs.size))) { s with heap:=s.heap.push { cls:=.type "reversed",data:=.fields #[.ref t,.int ((items.size:Int) - 1) 0] },toks:=tk }):=
 .of_wp fun prog w A R s h=>by
  obtain ⟨hp,g,d,tk,os⟩:=s; obtain ⟨ht,h⟩:=h
  have hsub:=sub_reversed
  have hrev:=rev_of_tuple
  obtain ⟨o,ho,hc,n,hd⟩:=id ht
  have hs2:isSubtype (.type "tuple") (.type "dict")=pure false:=by rw [isSubtype_type]; kernel_rfl
  have hgi:=PyProof.Rows.slot_tuple_getitem.lookup
  have hT:Shared.TypeIs ⟨hp,g,d,tk,os⟩ (.ref t) "tuple":=⟨o,ho,hc⟩
  unfold Builtin.«reversed.__new__»
  have ht':PyProof.Rows.IsTup (Shared.heap ⟨hp,g,d,tk,os⟩) t items:=ht
  repeat (any_goals (first | assumption | (refine PyProof.Rows.len_tuple ht' hsz ?_) | wp_step))
  exact ⟨_,rfl,h _⟩
theorem rev_item {prog:Program} {w:World} {A:Around} {E:Value->Shared->Prop} {s:Shared} {r t:Addr} {i:Nat} {items:Array Value} {x:Value} {Q:Option Value->Shared->Prop}
  (hr:s.heap.get? r=some { cls:=.type "reversed",data:=.fields #[.ref t,.int (i:Int) 0] }) (ht:PyProof.Rows.IsTup s.heap t items) (hx:items[i]? = some x) (hi63:(i:Int) < 2 ^ 63)
  (hQ:∀ h' tk,h'.get? r=some { cls:=.type "reversed",data:=.fields #[.ref t,.int ((i:Int) - 1) 0] }->Heap.SameBut r s.heap h'->Q (some x) { s with heap:=h',toks:=tk }) :
  wpAny (model prog w) A (pyNext (.ref r)) Q E s:=by
 have hT:s.TypeIs (.ref r) "reversed":=⟨_,hr,rfl⟩
 have hgi:=PyProof.Rows.slot_tuple_getitem.lookup
 obtain ⟨o,ho,hc,n,hd⟩:=id ht
 obtain ⟨ocls,odct,odat,osl⟩:=o
 simp only at hc hd
 subst hc hd
 obtain ⟨hp,g,d,tk,os⟩:=s
 have hTt:Shared.TypeIs ⟨hp,g,d,tk,os⟩ (.ref t) "tuple":=⟨_,ho,rfl⟩
 unfold pyNext
 refine wpAny_bind (wpAny_attempt (wpAny_callSpecial?_slot (name:=Str.ofString "__next__") hT slot_reversed_next
  (wpAny_call_entry slot_reversed_next hT entry_reversed_next ?_ (args_reversed_next _))))
 unfold Builtin.«reversed.__next__»
 have hi:¬ ((i:Int) < 0):=by (first|lia|omega)
 have hlo:-(2 ^ 63)<=(i:Int):=by (first|lia|omega)
 obtain ⟨j,hj,hxj,_⟩:=atI_get (atI_nat (xs:=items.toList) (j:=i) (v:=x) (by rw [Array.getElem?_toList]; exact hx))
 rw [Array.length_toList] at hj
 rw [Array.getElem?_toList] at hxj
 have ht':PyProof.Rows.IsTup hp t items:=ht
 repeat (any_goals (first | assumption | (refine PyProof.Rows.getItem_tuple (s:=⟨hp,g,d,_,os⟩) (t:=t) (k:=(i:Int)) ht' hlo hi63 hj hxj ?_) | wp_step))
 refine ⟨_,rfl,wpAny_pure (hQ _ _ ?_ (Heap.SameBut.update ..))⟩
 show (hp.update r _).get? r=_
 rw [Heap.get?_update_self _ hr (by first | rfl | exact Obj.isFreed_of_fields (Obj.data_mapFields rfl _))]
 simp [Obj.mapFields,rawInt]
end L2
namespace L2
open PySem PySem.Spec PyProof.Rows
theorem rev_end {prog:Program} {w:World} {A:Around} {E:Value->Shared->Prop} {s:Shared} {r t:Addr} {k:Int} {Q:Option Value->Shared->Prop} (hh:A.handled=none)
  (hr:s.heap.get? r=some { cls:=.type "reversed",data:=.fields #[.ref t,.int k 0] }) (hk:k < 0)
  (hQ:∀ h',Heap.ExtBut r s.heap h'->Q none { s with heap:=h' }) :
  wpAny (model prog w) A (pyNext (.ref r)) Q E s:=by
 have hT:s.TypeIs (.ref r) "reversed":=⟨_,hr,rfl⟩
 obtain ⟨hp,g,d,tk,os⟩:=s
 unfold pyNext
 refine wpAny_bind (wpAny_attempt (wpAny_callSpecial?_slot (name:=Str.ofString "__next__") hT slot_reversed_next
  (wpAny_call_entry slot_reversed_next hT entry_reversed_next ?_ (args_reversed_next _))))
 unfold Builtin.«reversed.__next__»
 repeat (any_goals (first | assumption | wp_step))
 simp only [raiseNew]
 refine wpAny_bind (wpAny_handled ?_)
 rw [show A.in1.handled=none from hh]
 refine wpAny_bind (wpAny_pure (wpAny_throw ?_))
 refine wpAny_bind (wpAny_isInstance (T:="StopIteration") (b:=true) ⟨_,Heap.get?_push_size _ rfl,rfl⟩ isSubtype_stop ?_)
 exact wpAny_pure (hQ _ fun b o hb e=>Heap.get?_push_of_some _ (Heap.get?_push_of_some _ ((Heap.SameBut.update ..).extBut b o hb ((Heap.SameBut.update ..).extBut b o hb e))))
end L2
namespace L2
open PySem PySem.Spec PyProof.Rows
theorem args_init_2 (a b:Value):argsOk "object.__init__" ⟨[a,b],[]⟩:=by unfold argsOk; kernel_rfl
theorem call_reversed {prog:Program} {w:World} {A:Around} {E:Value->Shared->Prop} {s:Shared} {t:Addr} {items:Array Value} {Q:Value->Shared->Prop} (ht:s.heap.IsTuple t items) (hsz:(items.size:Int) < 2 ^ 63)
  (h:∀ tk,Q (.ref s.heap.objs.size) { s with heap:=s.heap.push { cls:=.type "reversed",data:=.fields #[.ref t,.int ((items.size:Int) - 1) 0] },toks:=tk }):wpAny (model prog w) A (call (.type "reversed") [.ref t]) Q E s:=
 callType_new called_reversed (by decide) (typeCall_reversed_1 _) (newCall_reversed_1 _) (fun obj=>args_init_2 obj _) entry_reversed_new (meets_reversed_new t items hsz) ⟨ht,fun tk=>⟨⟨_,Heap.get?_push_size _ rfl,rfl⟩,h tk⟩⟩
end L2
namespace L2
open PySem PySem.Spec PyProof.Rows
def Itv (K:PySem.W.Frag) (a:Addr) (n:Nat):It:=
 ⟨fun i H=>∃ xs x,SqT K H a xs/\xs.length=n/\xs.reverse[i]? = some x,fun i H x H'=>H'=H/\∀ xs,SqT K H a xs->xs.reverse[i]? = some x,fun i H=>∃ xs,SqT K H a xs/\xs.length=n/\n<=i⟩
theorem turn_rev {P:Program} {w:World} {K:PySem.W.Frag} {tg:Expr} (a it:Addr) (n:Nat) (n63:(n:Int) < 2 ^ 63) :
  Turn P w K tg (Itv K a n) [it] it (fun i h=>h.get? it=some { cls:=.type "reversed",data:=.fields #[.ref a,.int ((n:Int) - 1 - i) 0] }) where
 mem:=by simp
 obj:=fun i h st b hb=>by
  have e:b=it:=by simpa using hb
  subst e
  exact ⟨_,st,fun v z=>by cases z⟩
 keep:=fun i h h' st k=>k it (by simp) _ st
 item:=by
  intro X hP hw hK hc i pins s σ H E I hf st hg
  subst hP hw hK
  obtain ⟨xs,x,hq,hn,hx⟩:=hg
  obtain ⟨its,rv,p,hz⟩:=I.tuple hq
  have hi:i < xs.length:=by
   have:=(List.getElem?_eq_some_iff.mp hx).1
   rwa [List.length_reverse] at this
  have hx':xs[n - 1 - i]? = some x:=by
   rw [List.getElem?_reverse hi,hn] at hx
   exact hx
  obtain ⟨u,hu,ru⟩:=rv.get hx'
  obtain ⟨f0,f1,f2,f3,f4,f5⟩:=hf it (by simp)
  have e1:(n:Int) - 1 - i=((n - 1 - i:Nat):Int):=by (first|lia|omega)
  have e2:(n:Int) - 1 - ((i + 1:Nat):Int)=((n - 1 - i:Nat):Int) - 1:=by (first|lia|omega)
  rw [e1] at st
  refine rev_item st p (x:=u) (by simpa using hu) (by (first|lia|omega)) fun h' tk g1 sb=>?_
  have I1:Inv X pins σ H { s with heap:=h',toks:=tk }:=I.turned (t':=tk) (fun b o hb e=>(sb.2 b hb).trans e) f0 f1 f3 f4 f5
  refine ⟨u,rfl,go_of (s:={ s with heap:=h',toks:=tk }) g1 rfl rfl (by decide) ⟨x,H,I1,ru,⟨rfl,fun ys hy=>by rw [I.tuple_inj hy hq]; exact hx⟩,?_,fun b hb=>(hf b hb).1⟩⟩
  rw [e2]
  exact g1
 done:=by
  intro X hP hw hK hc i pins s σ H E I hf st hg
  subst hP hw hK
  obtain ⟨xs,hq,hn,hle⟩:=hg
  obtain ⟨f0,f1,f2,f3,f4,f5⟩:=hf it (by simp)
  exact rev_end (I.ok.hd hc) st (by (first|lia|omega)) fun h' eb=>⟨rfl,I.turned (t':=s.toks) (fun b o hb e=>eb b o hb e) f0 f1 f3 f4 f5⟩
 self:=fun A i s Q E st h=>by
  have hT:s.TypeIs (.ref it) "reversed":=⟨_,st,rfl⟩
  refine wpAny_pyIter_slot hT slot_reversed_iter (wpAny_call_entry slot_reversed_iter hT entry_reversed_iter ?_ (args_reversed_iter _))
  show wpAny _ _ (ret (.ref it)) _ _ s
  exact wpAny_pure ⟨_,rfl,"reversed",_,hT,slot_reversed_next.lookup,h⟩
end L2
namespace L2
open PySem PySem.Spec PyProof.Rows
theorem boot_reversed:bootBuiltins "reversed"=some (.type "reversed"):=by decide +kernel
def iRev (K:PySem.W.Frag) (ta:TA):TI:=fun σ H R=>ta σ H fun vs H1=>∃ a xs,vs=[.ref a]/\SqT K H1 a xs/\R (Itv K a xs.length) H1
theorem pi_rev {X:Cx} {tg a:Expr} {ta:TA} {p pos:Pos} (hg:Gl X "reversed") (hm:X.mg "reversed"=none) (ha:PA X [a] ta) (hs:starEach [a] X.env=[(false,eval a X.env)]:=by rfl) :
  PI X tg (.Call (.Name "reversed" p) [a] [] pos) (iRev X.K ta):=by
 intro pins s σ H R I h
 refine Call_ (ld_blt I hg hm boot_reversed (PyProof.Rows.callWith_type1 (thn (ha pos pins s σ H _ I h) fun us s1 ⟨vs,H1,I1,r1,q1⟩=>?_) hs rfl))
 obtain ⟨a',xs,e,hx,q⟩:=q1
 subst e
 obtain ⟨its,rv,pt,hz⟩:=I1.tuple hx
 have hl:=rv.length
 have n63:(xs.length:Int) < 2 ^ 63:=by
  have:sizeLine=16777216:=sizeLine_eq
  (first|lia|omega)
 obtain ⟨u,rfl,ru⟩:=vals1 r1
 cases ru
 refine call_reversed (show s1.heap.IsTuple a' its.toArray from pt) (by rw [List.size_toArray,<-hl]; exact n63) fun tk=>?_
 have I2:Inv X pins σ H1 { s1 with heap:=s1.heap.push { cls:=.type "reversed",data:=.fields #[.ref a',.int ((its.toArray.size:Int) - 1) 0] },toks:=tk }:=I1.kept (t':=tk) fun b o e=>Heap.get?_push_of_some _ e
 have st:(s1.heap.push { cls:=.type "reversed",data:=.fields #[.ref a',.int ((its.toArray.size:Int) - 1) 0] }).get? s1.heap.objs.size=some { cls:=.type "reversed",data:=.fields #[.ref a',.int ((xs.length:Int) - 1 - ((0:Nat):Int)) 0] }:=by
  rw [Heap.get?_push_size _ rfl,List.size_toArray,<-hl]
  simp
 have T:=turn_rev (P:=X.prog) (w:=X.w) (K:=X.K) (tg:=tg) a' s1.heap.objs.size xs.length n63
 refine T.self _ 0 _ _ _ st ?_
 refine ⟨s1.heap.objs.size,[s1.heap.objs.size],_,_,H1,rfl,I2,T,st,fun b hb=>?_,q⟩
 have e:b=s1.heap.objs.size:=by simpa using hb
 subst e
 exact I1.fpOk (Nat.le_refl _) (I1.hok.fresh (Nat.le_refl _))
end L2
namespace L2
open PySem PySem.Spec PyProof.Rows
theorem for_rev {K:PySem.W.Frag} {a:Addr} {xs:List V} {g:TG} {tb:TS} {D:Ends} {σ:St} {H:Hp} (Pv:Nat->St->Hp->Prop) (h0:Pv 0 σ H) (hl:∀ i σ H,i<=xs.length->Pv i σ H->SqT K H a xs)
  (hs:∀ i x σ H,xs.reverse[i]? = some x->Pv i σ H->g x σ H fun σ2 H2=>tb { D with nx:=Pv (i + 1),ct:=Pv (i + 1),bk:=D.nx } σ2 H2) (hd:∀ σ H,Pv xs.length σ H->D.nx σ H) :
  ∃ W:Nat->Nat->St->Hp->Prop,(∃ m,W 0 m σ H)/\∀ i m σ H,W i m σ H ->
   ((Itv K a xs.length).stop i H/\D.nx σ H)\/((Itv K a xs.length).go i H/\∃ N:St->Hp->Prop,(∀ σ' H',N σ' H'->∃ m',m' < m/\W (i + 1) m' σ' H')/\∀ x H',(Itv K a xs.length).yld i H x H'->g x σ H' fun σ2 H2=>tb { D with nx:=N,ct:=N,bk:=D.nx } σ2 H2):=by
 refine ⟨fun i m σ H=>m=xs.length - i/\i<=xs.length/\Pv i σ H,⟨xs.length,by simp,Nat.zero_le _,h0⟩,?_⟩
 rintro i m σ H ⟨rfl,hi,p⟩
 have q:=hl i σ H hi p
 by_cases hlt:i < xs.length
 ·have hr:i < xs.reverse.length:=by rw [List.length_reverse]; exact hlt
  refine .inr ⟨⟨xs,xs.reverse[i],q,rfl,List.getElem?_eq_getElem hr⟩,Pv (i + 1),fun σ' H' p'=>⟨xs.length - (i + 1),by (first|lia|omega),rfl,hlt,p'⟩,fun x H' y=>?_⟩
  obtain ⟨e,y⟩:=y
  subst e
  exact hs i x σ _ (y xs q) p
 ·have e:i=xs.length:=by (first|lia|omega)
  subst e
  exact .inl ⟨⟨xs,q,rfl,Nat.le_refl _⟩,hd σ H p⟩
end L2
namespace L2
open PySem
theorem for_tupB {K:PySem.W.Frag} {a:Addr} {xs:List V} {g:TG} {tb:TS} {D:Ends} {σ:St} {H:Hp} (Pv:Nat->St->Hp->Prop) (h0:Pv 0 σ H) (hl:∀ i σ H,i<=xs.length->Pv i σ H->SqT K H a xs)
  (hs:∀ i x σ H,xs[i]? = some x->Pv i σ H->∀ (rt:VK) (bk:St->Hp->Prop),g x σ H fun σ2 H2=>tb ⟨Pv (i + 1),rt,bk,Pv (i + 1)⟩ σ2 H2) (hd:∀ σ H,Pv xs.length σ H->D.nx σ H) :
  ∃ W:Nat->Nat->St->Hp->Prop,(∃ m,W 0 m σ H)/\∀ i m σ H,W i m σ H ->
   ((Itt K a).stop i H/\D.nx σ H)\/((Itt K a).go i H/\∃ N:St->Hp->Prop,(∀ σ' H',N σ' H'->∃ m',m' < m/\W (i + 1) m' σ' H')/\∀ x H',(Itt K a).yld i H x H'->g x σ H' fun σ2 H2=>tb { D with nx:=N,ct:=N,bk:=D.nx } σ2 H2):=
 for_tup Pv h0 hl (fun i x σ H hx hp=>hs i x σ H hx hp D.rt D.nx) hd
theorem for_rangeB {lo:Int} {n:Nat} {g:TG} {tb:TS} {D:Ends} {σ:St} {H:Hp} (Pv:Nat->St->Hp->Prop) (h0:Pv 0 σ H)
  (hs:∀ i σ H,i < n->Pv i σ H->∀ (rt:VK) (bk:St->Hp->Prop),g (.int (lo + i)) σ H fun σ2 H2=>tb ⟨Pv (i + 1),rt,bk,Pv (i + 1)⟩ σ2 H2) (hd:∀ σ H,Pv n σ H->D.nx σ H) :
  ∃ W:Nat->Nat->St->Hp->Prop,(∃ m,W 0 m σ H)/\∀ i m σ H,W i m σ H ->
   ((Itr lo n).stop i H/\D.nx σ H)\/((Itr lo n).go i H/\∃ N:St->Hp->Prop,(∀ σ' H',N σ' H'->∃ m',m' < m/\W (i + 1) m' σ' H')/\∀ x H',(Itr lo n).yld i H x H'->g x σ H' fun σ2 H2=>tb { D with nx:=N,ct:=N,bk:=D.nx } σ2 H2):=
 for_range Pv h0 (fun i σ H hx hp=>hs i σ H hx hp D.rt D.nx) hd
theorem for_revB {K:PySem.W.Frag} {a:Addr} {xs:List V} {g:TG} {tb:TS} {D:Ends} {σ:St} {H:Hp} (Pv:Nat->St->Hp->Prop) (h0:Pv 0 σ H) (hl:∀ i σ H,i<=xs.length->Pv i σ H->SqT K H a xs)
  (hs:∀ i x σ H,xs.reverse[i]? = some x->Pv i σ H->∀ (rt:VK) (bk:St->Hp->Prop),g x σ H fun σ2 H2=>tb ⟨Pv (i + 1),rt,bk,Pv (i + 1)⟩ σ2 H2) (hd:∀ σ H,Pv xs.length σ H->D.nx σ H) :
  ∃ W:Nat->Nat->St->Hp->Prop,(∃ m,W 0 m σ H)/\∀ i m σ H,W i m σ H ->
   ((Itv K a xs.length).stop i H/\D.nx σ H)\/((Itv K a xs.length).go i H/\∃ N:St->Hp->Prop,(∀ σ' H',N σ' H'->∃ m',m' < m/\W (i + 1) m' σ' H')/\∀ x H',(Itv K a xs.length).yld i H x H'->g x σ H' fun σ2 H2=>tb { D with nx:=N,ct:=N,bk:=D.nx } σ2 H2):=
 for_rev Pv h0 hl (fun i x σ H hx hp=>hs i x σ H hx hp D.rt D.nx) hd
end L2
namespace L2
open PySem
theorem for_rangeN {lo:Int} {n:Nat} {g:TG} {tb:TS} {D:Ends} {σ:St} {H:Hp} (Pv:Nat->St->Hp->Prop) (h0:Pv 0 σ H)
  (hs:∀ i σ H,i < n->Pv i σ H->∀ (rt:VK) (bk N:St->Hp->Prop),(∀ σ H,Pv (i + 1) σ H->N σ H)->g (.int (lo + i)) σ H fun σ2 H2=>tb ⟨N,rt,bk,N⟩ σ2 H2) (hd:∀ σ H,Pv n σ H->D.nx σ H) :
  ∃ W:Nat->Nat->St->Hp->Prop,(∃ m,W 0 m σ H)/\∀ i m σ H,W i m σ H ->
   ((Itr lo n).stop i H/\D.nx σ H)\/((Itr lo n).go i H/\∃ N:St->Hp->Prop,(∀ σ' H',N σ' H'->∃ m',m' < m/\W (i + 1) m' σ' H')/\∀ x H',(Itr lo n).yld i H x H'->g x σ H' fun σ2 H2=>tb { D with nx:=N,ct:=N,bk:=D.nx } σ2 H2):=
 for_range Pv h0 (fun i σ H hx hp=>hs i σ H hx hp D.rt D.nx _ fun _ _ z=>z) hd
theorem for_listN {K:PySem.W.Frag} {a:Addr} {xs:List V} {g:TG} {tb:TS} {D:Ends} {σ:St} {H:Hp} (Pv:Nat->St->Hp->Prop) (h0:Pv 0 σ H) (hl:∀ i σ H,i<=xs.length->Pv i σ H->SqL K H a xs)
  (hs:∀ i x σ H,xs[i]? = some x->Pv i σ H->∀ (rt:VK) (bk N:St->Hp->Prop),(∀ σ H,Pv (i + 1) σ H->N σ H)->g x σ H fun σ2 H2=>tb ⟨N,rt,bk,N⟩ σ2 H2) (hd:∀ σ H,Pv xs.length σ H->D.nx σ H) :
  ∃ W:Nat->Nat->St->Hp->Prop,(∃ m,W 0 m σ H)/\∀ i m σ H,W i m σ H ->
   ((Itl K a).stop i H/\D.nx σ H)\/((Itl K a).go i H/\∃ N:St->Hp->Prop,(∀ σ' H',N σ' H'->∃ m',m' < m/\W (i + 1) m' σ' H')/\∀ x H',(Itl K a).yld i H x H'->g x σ H' fun σ2 H2=>tb { D with nx:=N,ct:=N,bk:=D.nx } σ2 H2):=
 for_list Pv h0 hl (fun i x σ H hx hp=>hs i x σ H hx hp D.rt D.nx _ fun _ _ z=>z) hd
end L2
namespace L2
open PySem PySem.Spec PyProof.Rows
section
variable {X:Cx} {pins:List (Addr × Obj)} {σ σ':St} {H H':Hp} {s2 s':Shared} {scope:Scope} {cl:List (Str × Addr)} {N:List Str} {fp:List Addr} {C D:Addr} {h₁ h':Heap} {t':Nat}
end
end L2
namespace L2
open PySem PySem.Spec PySem.W PyProof.Rows
end L2
namespace L2
open PySem PySem.Spec PyProof.Rows
end L2
namespace L2
open PySem PySem.Spec PyProof.Rows
theorem call_len_seqK (K:PySem.W.Frag) {X:Cx} (h:X.K=K):CallR X (.builtin "len") (fun xs H Q=>∃ p vs,xs=[V.ref p]/\(SqL K H p vs\/SqT K H p vs)/\Q (.int vs.length) H):=by subst h; exact call_len_seq
theorem pi_listK (K:PySem.W.Frag) {X:Cx} {tg l:Expr} {tl:TE} (h:X.K=K) (hl:PE X l tl):PI X tg l (iList K tl):=by subst h; exact pi_list hl
theorem pi_tupK (K:PySem.W.Frag) {X:Cx} {tg l:Expr} {tl:TE} (h:X.K=K) (hl:PE X l tl):PI X tg l (iTup K tl):=by subst h; exact pi_tup hl
end L2
namespace L2
open PySem PySem.Spec PyProof.Rows
def keyN (k:Int × List Str):List Atm:=.i k.1 :: k.2.map Atm.s
theorem keyN_inj {p q:Int × List Str} (h:keyN p=keyN q):p=q:=by
 unfold keyN at h
 injection h with h1 h2
 injection h1 with h1
 have:p.2=q.2:=by
  have inj:∀ {xs ys:List Str},xs.map Atm.s=ys.map Atm.s->xs=ys:=by
   intro xs
   induction xs with
   | nil=>intro ys e; cases ys with | nil=>rfl | cons y ys=>cases e
   | cons x xs ih=>
    intro ys e
    cases ys with
    | nil=>cases e
    | cons y ys=>
     rw [List.map_cons,List.map_cons] at e
     injection e with e1 e2
     injection e1 with e1
     rw [e1,ih e2]
  exact inj h2
 exact Prod.ext h1 this
section
open PySem.SeqAt
open PySem.AutoSeq1 (wpAny_loadPart')
open PySem.MeetsSeq PySem.MeetsSeq2 PySem.MeetsSeq3
end
section
open PySem.SeqAt
open PySem.AutoSeq1 (wpAny_loadPart')
open PySem.MeetsSeq PySem.MeetsSeq2 PySem.MeetsSeq3
end
section
variable {prog:Program} {w:World} {A:Around} {R:Result->Shared->Prop} {I:Addr} {fp wr:List Addr} {n:Nat} {P:Nat->Value->Prop} {St:Nat->Heap->Prop} {g0:Heap}
end
section
variable {prog:Program} {w:World} {A:Around} {E:Value->Shared->Prop} {s:Shared}
end
section
variable {X:Cx} {pins:List (Addr × Obj)} {σ:St} {H:Hp} {s:Shared}
end
end L2
namespace L2
open PySem PySem.Spec PyProof.Rows
theorem op_catTK (K:PySem.W.Frag) {X:Cx} (h:X.K=K):OpR X (binaryOp .Add) (rCatT K):=by subst h; exact op_catT
inductive Tups (H:Hp):List V->List (List Str)->Prop
 | nil:Tups H [] []
 | cons {t:Addr} {us:List V} {f:List Str} {fs:List (List Str)}:H t=some (.tup (f.map V.str))->Tups H us fs->Tups H (.ref t :: us) (f :: fs)
theorem Tups.len {H:Hp} {us:List V} {fs:List (List Str)} (h:Tups H us fs):us.length=fs.length:=by
 induction h with
 | nil=>rfl
 | cons _ _ ih=>rw [List.length_cons,List.length_cons,ih]
theorem Tups.keep {H H':Hp} {us:List V} {fs:List (List Str)} (h:Tups H us fs) (s:∀ b xs,H b=some (.tup xs)->H' b=some (.tup xs)):Tups H' us fs:=by
 induction h with
 | nil=>exact .nil
 | cons a _ ih=>exact .cons (s _ _ a) ih
theorem Tups.app {H:Hp} {us vs:List V} {fs gs:List (List Str)} (h:Tups H us fs) (h':Tups H vs gs):Tups H (us ++ vs) (fs ++ gs):=by
 induction h with
 | nil=>exact h'
 | cons a _ ih=>exact .cons a ih
theorem Tups.get {H:Hp} {us:List V} {fs:List (List Str)} (h:Tups H us fs):∀ {i:Nat} {u:V},us[i]? = some u->∃ t f,u=.ref t/\fs[i]? = some f/\H t=some (.tup (f.map V.str)):=by
 induction h with
 | nil=>intro i u e; simp at e
 | cons a _ ih=>
  intro i u e
  cases i with
  | zero=>simp at e; subst e; exact ⟨_,_,rfl,rfl,a⟩
  | succ i=>exact ih (by simpa using e)
theorem Tups.mem {H:Hp} {us:List V} {fs:List (List Str)} (h:Tups H us fs) {u:V} (hu:u ∈ us):∃ t f,u=.ref t/\f ∈ fs/\H t=some (.tup (f.map V.str)):=by
 obtain ⟨i,hi⟩:=List.getElem?_of_mem hu
 obtain ⟨t,f,e,ef,ht⟩:=h.get hi
 exact ⟨t,f,e,List.mem_of_getElem? ef,ht⟩
theorem Tups.perm {H:Hp} {us us':List V} (p:us'.Perm us):∀ {fs:List (List Str)},Tups H us fs->∃ fs',fs'.Perm fs/\Tups H us' fs':=by
 induction p with
 | nil=>intro fs h; cases h; exact ⟨[],.refl _,.nil⟩
 | cons x p ih=>
  intro fs h
  cases h with
  | cons a b=>
   obtain ⟨fs',p',t'⟩:=ih b
   exact ⟨_ :: fs',p'.cons _,.cons a t'⟩
 | swap x y l=>
  intro fs h
  cases h with
  | cons a b=>
   cases b with
   | cons c d=>exact ⟨_ :: _ :: _,.swap _ _ _,.cons c (.cons a d)⟩
 | trans p1 p2 ih1 ih2=>
  intro fs h
  obtain ⟨f1,q1,t1⟩:=ih2 h
  obtain ⟨f2,q2,t2⟩:=ih1 t1
  exact ⟨f2,q2.trans q1,t2⟩
theorem strs_atm (f:List Str):(f.map V.str).map vAtm=f.map Atm.s:=by rw [List.map_map]; rfl
theorem Tups.keys {H:Hp} {us:List V} {fs:List (List Str)} (h:Tups H us fs):us.map (keyV H)=fs.map fun f=>f.map Atm.s:=by
 induction h with
 | nil=>rfl
 | cons a _ ih=>
  rw [List.map_cons,List.map_cons,ih]
  congr 1
  rw [<-strs_atm]
  show (match H _ with | some (.tup ys)=>ys.map vAtm | _=>[])=_
  rw [a]
theorem Tups.kinds {H:Hp} {us:List V} {fs:List (List Str)} (h:Tups H us fs) (ne:∀ f ∈ fs,f ≠ []):∀ v ∈ us,TupK H (fun _=>true) v:=by
 intro v hv
 obtain ⟨t,f,rfl,hf,ht⟩:=h.mem hv
 refine ⟨t,_,rfl,ht,by simpa using ne f hf,fun i y e=>?_⟩
 rw [List.getElem?_map] at e
 cases z:f[i]? with
 | none=>rw [z] at e; cases e
 | some x=>rw [z] at e; exact ⟨x,(Option.some.inj e).symm⟩
theorem atms_inj {xs ys:List Str} (h:xs.map Atm.s=ys.map Atm.s):xs=ys:=by
 have:=@keyN_inj (0,xs) (0,ys) (by unfold keyN; rw [h])
 exact (Prod.mk.inj this).2
def limB:V->Nat->Bool
 | .int i,k=>decide ((k:Int)<=i)
 | _,_=>true
def Subs (sites:List Str) (fs:List (List Str)):Prop:=fs.Nodup/\∀ ss,ss ∈ fs ↔ ss.Sublist sites
theorem Subs.nil:Subs [] [[]]:=⟨by simp,fun ss=>by simp⟩
theorem Subs.step {a:Str} {sites:List Str} {fs:List (List Str)} (ha:a ∉ sites) (h:Subs sites fs):Subs (a :: sites) (fs ++ fs.map (a :: ·)):=by
 refine ⟨List.nodup_append.mpr ⟨h.1,?_,?_⟩,fun ss=>?_⟩
 ·refine List.pairwise_map.mpr (h.1.imp fun {x y} ne e=>?_)
  injection e with _ e
  exact ne e
 ·rintro x hx y hy rfl
  obtain ⟨g,hg,rfl⟩:=List.mem_map.mp hy
  exact ha (((h.2 _).mp hx).subset List.mem_cons_self)
 ·rw [List.mem_append,List.mem_map,List.sublist_cons_iff]
  constructor
  ·rintro (h1 | ⟨g,hg,rfl⟩)
   ·exact .inl ((h.2 _).mp h1)
   ·exact .inr ⟨g,rfl,(h.2 _).mp hg⟩
  ·rintro (h1 | ⟨g,rfl,hg⟩)
   ·exact .inl ((h.2 _).mpr h1)
   ·exact .inr ⟨g,(h.2 _).mpr hg,rfl⟩
def CaseS (H:Hp) (c:Addr) (sites:List Str) (x:V) (d:PyData):Prop:=
 ∃ (m t2:V) (t1:Addr) (us1:List V) (rs1:List Row),H c=some (.tup [m,.ref t1,t2,x])/\H t1=some (.tup us1)/\Dats H us1 (rs1.map rowD)/\rs1.map (·.1)=sites/\sites.Nodup/\sites.length<=10/\Lim x d
theorem CaseW.sites {H:Hp} {c m:Addr} {n:Nat} {xs:List Str} {ws:List Way} {rs1 rs2:List Row} {x:V} {d:PyData} (h:CaseW H c m n xs ws rs1 rs2 x d):CaseS H c (rs1.map (·.1)) x d:=by
 obtain ⟨t1,t2,us1,us2,a,b,e,f,g⟩:=h.ex
 exact ⟨_,_,t1,us1,rs1,a,b,e,rfl,h.ok1.nd,by rw [List.length_map]; exact h.l1,h.lim⟩
end L2
namespace L2
open PySem PySem.Spec PyProof.Rows
end L2
namespace L2
open PySem PySem.Spec PyProof.Rows
def rCatTA (K:PySem.W.Frag):R2:=fun x y H Q=>∃ a b xs ys,x=.ref a/\y=.ref b/\SqT K H a xs/\SqT K H b ys/\xs.length + ys.length<=sizeLine /\
 (xs=[]->Q (.ref b) H)/\(xs ≠ []->ys=[]->Q (.ref a) H)/\(xs ≠ []->ys ≠ []->∀ p,H p=none->Q (.ref p) (upd H p (.tup (xs ++ ys))))
theorem op_catTA (K:PySem.W.Frag) {X:Cx} (hK:X.K=K):OpR X (binaryOp .Add) (rCatTA K):=by
 subst hK
 intro pins s σ H x y v u Q I rx ry h
 obtain ⟨a,b,xs,ys,rfl,rfl,ha,hb,hz,q0,q1,q2⟩:=h
 cases rx
 cases ry
 obtain ⟨its,r1,p1,_⟩:=I.tuple ha
 obtain ⟨its2,r2,p2,_⟩:=I.tuple hb
 by_cases hx:xs=[]
 ·obtain ⟨⟨cls,dd,data,sl⟩,ho,hc,n,hd⟩:=id p1
  obtain ⟨⟨cls2,dd2,data2,sl2⟩,ho2,hc2,n2,hd2⟩:=id p2
  simp only at hc hd hc2 hd2
  subst hc hd hc2 hd2
  exact concat_meets ⟨_,ho,rfl⟩ ⟨_,ho2,rfl⟩ noFill_tuple_add seq_tuple_add PySem.F.slot_tuple_add PySem.F.entry_tuple_add (PySem.F.args_tuple_add_2 _ _)
   (tuple_addW0 a b its.toArray its2.toArray n n2 dd dd2 sl sl2 (by simp [r1.nil_iff.mpr hx])) ⟨ho,ho2,⟨.ref b,H,I,rfl,q0 hx⟩⟩
 ·refine HT.cat_tup p1 p2 (fun z=>hx (r1.nil_iff.mp z)) (fun z=>⟨.ref a,H,I,rfl,q1 hx (r2.nil_iff.mp z)⟩) (fun z=>?_) (by rw [<-r1.length,<-r2.length]; exact hz)
  refine ⟨.ref s.heap.objs.size,_,I.laid (t':=s.toks) (o:=.tup (xs ++ ys)) (fun b ob q=>Heap.get?_push_of_some _ q) (Nat.le_refl _) ?_,rfl,q2 hx (fun w=>z (r2.nil_iff.mpr w)) _ (I.hok.fresh (Nat.le_refl _))⟩
  exact ⟨by rw [List.length_append]; exact hz,_,r1.append r2,IsTup.new _ _,TupD.new rfl rfl⟩
def spMost:Sp:=fun vs H Q _=>∃ (c:Addr) (sites:List Str) (x:V) (d:PyData),vs=[.ref c]/\CaseS H c sites x d /\
 ∀ mo:Int,0<=mo->(∀ k:Nat,k<=sites.length->((k:Int)<=mo ↔ limB x k=true))->Q (.int mo) H
def SubsM (l:List Str) (mo:Int) (fs:List (List Str)):Prop:=fs.Nodup/\∀ ss,ss ∈ fs ↔ ss.Sublist l/\(ss.length:Int)<=mo
theorem SubsM.nil {mo:Int} (h:0<=mo):SubsM [] mo [[]]:=⟨by simp,fun ss=>by
 constructor
 ·intro z
  rw [List.mem_singleton] at z
  subst z
  exact ⟨List.Sublist.refl _,by simpa using h⟩
 ·rintro ⟨z,_⟩
  rw [List.sublist_nil.mp z]
  simp⟩
theorem SubsM.step {a:Str} {l:List Str} {mo:Int} {fs:List (List Str)} (ha:a ∉ l) (h:SubsM l mo fs):SubsM (l ++ [a]) mo (fs ++ (fs.filter fun f=>decide ((f.length:Int) < mo)).map (· ++ [a])):=by
 refine ⟨List.nodup_append.mpr ⟨h.1,?_,?_⟩,fun ss=>?_⟩
 ·exact List.pairwise_map.mpr ((h.1.sublist List.filter_sublist).imp fun {x y} ne e=>ne (List.append_cancel_right e))
 ·rintro x hx y hy rfl
  obtain ⟨g,hg,rfl⟩:=List.mem_map.mp hy
  exact ha (((h.2 _).mp hx).1.subset (by simp))
 ·rw [List.mem_append,List.mem_map,List.sublist_append_iff]
  constructor
  ·rintro (h1 | ⟨g,hg,rfl⟩)
   ·exact ⟨⟨ss,[],by simp,((h.2 _).mp h1).1,List.nil_sublist _⟩,((h.2 _).mp h1).2⟩
   ·obtain ⟨g1,g2⟩:=List.mem_filter.mp hg
    exact ⟨⟨g,[a],rfl,((h.2 _).mp g1).1,List.Sublist.refl _⟩,by have:=of_decide_eq_true g2; rw [List.length_append,List.length_singleton]; (first|lia|omega)⟩
  ·rintro ⟨⟨l1,l2,rfl,s1,s2⟩,le⟩
   have:l2=[]\/l2=[a]:=by
    cases s2 with
    | cons _ s=>exact .inl (List.sublist_nil.mp s)
    | cons_cons _ s=>rw [List.sublist_nil.mp s]; exact .inr rfl
   rcases this with rfl | rfl
   ·rw [List.append_nil] at le ⊢
    exact .inl ((h.2 _).mpr ⟨s1,le⟩)
   ·rw [List.length_append,List.length_singleton] at le
    exact .inr ⟨l1,List.mem_filter.mpr ⟨(h.2 _).mpr ⟨s1,by (first|lia|omega)⟩,decide_eq_true (by (first|lia|omega))⟩,rfl⟩
def tTru (K:PySem.W.Frag) (ta:TE):TT:=fun σ H Q=>ta σ H fun x H'=>∃ k,TruV K x H' k/\Q k H'
theorem pt_truthK (K:PySem.W.Frag) {X:Cx} (hK:X.K=K) {a:Expr} {ta:TE} (ha:PE X a ta) (he:∀ whole,isTrue a X.env whole=(do let v <- whole; standAt a.pos; holding [v] (truthy v))):PT X a (tTru K ta):=by subst hK; exact pt_truth ha he
end L2
namespace L2
open PySem PySem.Spec PyProof.Rows
end L2
namespace L2
open PySem PySem.Spec PyProof.Rows
section
variable {prog:Program} {w:World} {A:Around} {E:Value->Shared->Prop} {s:Shared}
theorem gather_tup {l:Addr} {vs:List Value} {Q:List Value->Shared->Prop} (hl:s.heap.IsTuple l vs.toArray) (few:vs.toArray.size<=sizeLine)
  (h:∀ h1:Heap,s.heap.objs.size<=h1.objs.size->(∀ b o,s.heap.get? b=some o->h1.get? b=some o)->Q vs { s with heap:=h1 }):wpAny (model prog w) A (collect (.ref l)) Q E s:=by
 obtain ⟨o,ho,hc,n,hd⟩:=hl
 obtain ⟨g,eg⟩:∃ g,g=(s.heap.push { cls:=.type "list",data:=.seq ([]:List Value).toArray }).update s.heap.objs.size (Obj.mapSeq (· ++ vs.toArray)):=⟨_,rfl⟩
 have gS:=Heap.get?_update_self (Obj.mapSeq (· ++ vs.toArray)) (Heap.get?_push_size s.heap (o:={ cls:=.type "list",data:=.seq ([]:List Value).toArray }) rfl) rfl
 rw [<-eg] at gS
 have last:=h g (by rw [eg,Heap.size_update,Heap.size_push]; exact Nat.le_succ _) fun b o' hb=>by
  rw [eg]
  exact (Heap.get?_update_other _ _ (Nat.ne_of_gt (Heap.lt_size hb))).trans (Heap.get?_push_of_some _ hb)
 unfold collect
 refine wpAny_bind (wpAny_runValue (codeAny_builtin PySem.F.entry_proto_collect ?_))
 rw [Around.under_plainId PySem.F.plain_proto_collect _]
 refine wpAny_bind (wpAny_newObj_type (wpAny_pure ⟨plainId_quiet PySem.F.plain_list_iadd _,codeAny_builtin PySem.F.entry_list_iadd ?_⟩))
 rw [Around.under_plainId PySem.F.plain_list_iadd _]
 have fin:∀ s':Shared,s' = { s with heap:=g }->wpAny (model prog w) A (match Value.ref s.heap.objs.size with
   | Value.ref a=>do
    match (<- load a).data with
     | Data.seq xs _=>pure xs.toList
     | _=>unsupported "internal:collect"
   | _=>unsupported "internal:collect") Q E s':=by
  rintro s' rfl
  refine wpAny_bind (wpAny_load gS (wpAny_pure ?_))
  simpa using last
 refine wpAny_mono (wpAny_extend_seq (hsz:=few) (A:=A) (R:=fun r s'=>r=.ok (.ret (.ref s.heap.objs.size))/\s' = { s with heap:=g }) (s:={ s with heap:=s.heap.push { cls:=.type "list",data:=.seq ([]:List Value).toArray } }) _ l _ 0 (.inr rfl) (Heap.get?_push_size _ rfl) (Heap.get?_push_of_some _ ho) hc hd ⟨rfl,by rw [eg]⟩) (fun r s' q=>?_) (fun e s' q=>absurd q.1 (by simp))
 cases r with
 | done f=>
  obtain ⟨e,q⟩:=q
  cases e
  exact fin s' q
 | again c=>exact ⟨q.1,codeAny_mono q.2 fun r s'' z=>by obtain ⟨rfl,z⟩:=z; exact fin s'' z⟩
theorem sorted_tupS {l:Addr} {vs:List Value} {ss:List Str} {Q:Value->Shared->Prop} (hl:s.heap.IsTuple l vs.toArray) (hS:StrsAre vs ss) (h64:vs.length < 64)
  (h:∀ (h':Heap) (a:Addr) (out:Array Value) (ss':List Str) (e:Nat),s.heap.objs.size<=a->(∀ b o,s.heap.get? b=some o->h'.get? b=some o)->h'.get? a=some (seqObj "list" out e)->StrsAre out.toList ss'->ss'.Perm ss->sortedS ss'=true->Q (.ref a) { s with heap:=h' }) :
  wpAny (model prog w) A (call (.builtin "sorted") [.ref l]) Q E s:=by
 have few:vs.toArray.size<=sizeLine:=by rw [List.size_toArray,sizeLine_eq]; (first|lia|omega)
 refine Calls.call_function_entry kind_sorted plain_sorted entry_sorted (args_sorted1 _) ?_
 unfold Builtin.«sorted»
 refine wpAny_bind (m:=checkCount "sorted" 1 1 _) (wpAny_pure (wpAny_bind (gather_tup hl few fun h1 sz k1=>?_)))
 refine wpAny_bind (wpAny_newList ?_ (by simpa using few))
 have lies:(h1.push (seqObj "list" vs.toArray 0)).get? h1.objs.size=some (seqObj "list" vs.toArray 0):=Heap.get?_push_size _ rfl
 refine wpAny_bind (wpAny_holding (wpAny_call_entry slot_list_sort ⟨_,lies,rfl⟩ entry_list_sort (list_sort_treeK (s:={ s with heap:=h1.push (seqObj "list" vs.toArray 0) }) strKind_oneLt lies hS.keysOf (fun v₁ v₂ rest e=>keyKind_strs (by rw [<-e]; exact hS)) h64 fun st' hp hs=>⟨_,rfl,wpAny_pure ⟨_,rfl,?_⟩⟩) (args_list_sort _)))
 obtain ⟨ss',q1,q2,q3⟩:=sorted_out_str hS hp hs
 obtain ⟨e,he⟩:=sortedHeap_at (out:=(arrOf st').map (·.2)) lies
 refine h _ h1.objs.size _ ss' e sz (fun b o z=>?_) he q1 q2 q3
 have hb:=k1 b o z
 rw [sortedHeap_old (Nat.ne_of_lt (Heap.lt_size hb)) (by rw [Heap.size_push]; exact Nat.lt_succ_of_lt (Heap.lt_size hb))]
 exact Heap.get?_push_of_some _ hb
end
end L2
namespace L2
open PySem PySem.Spec PyProof.Rows
end L2
namespace L2
open PySem PySem.Spec PyProof.Rows
theorem call_tuple_ofK (K:PySem.W.Frag) {X:Cx} (h:X.K=K):CallR X (.type "tuple") (fun xs H Q=>∃ p ys,xs=[.ref p]/\((SqL K H p ys/\∀ l,H l=none->Q (.ref l) (upd H l (.tup ys)))\/(SqT K H p ys/\Q (.ref p) H))):=by subst h; exact call_tuple_of
end L2
namespace L2
open PySem PySem.Spec PySem.W PyProof.Rows
theorem call_sorted_strsK (K:PySem.W.Frag) {X:Cx} (h:X.K=K):CallR X (.builtin "sorted") (fun xs H Q=>∃ (a:Addr) (ss:List Str),xs=[.ref a]/\SqL K H a (ss.map V.str)/\ss.length < 64 /\
  ∀ (l:Addr) (ss':List Str),H l=none->ss'.Perm ss->sortedS ss'=true->Q (.ref l) (upd H l (.lst (ss'.map V.str)))):=by subst h; exact call_sorted_strs
theorem call_sorted_intsK (K:PySem.W.Frag) {X:Cx} (h:X.K=K):CallR X (.builtin "sorted") (fun xs H Q=>∃ (a:Addr) (ns:List Int),xs=[.ref a]/\SqL K H a (ns.map V.int)/\ns.length < 64 /\
  ∀ (l:Addr) (ns':List Int),H l=none->ns'.Perm ns->ns'.Pairwise (·<=·)->Q (.ref l) (upd H l (.lst (ns'.map V.int)))):=by subst h; exact call_sorted_ints
theorem call_sorted_waysPK (K:PySem.W.Frag) {X:Cx} (h:X.K=K):CallR X (.builtin "sorted") (fun xs H Q=>∃ (a:Addr) (vs:List V) (ws:List Way),xs=[.ref a]/\SqL K H a vs/\Dats H vs (ws.map wayD) /\
  ∀ (l:Addr) (vs':List V) (ws':List Way),H l=none->Dats H vs' (ws'.map wayD)->ws'.Perm ws->Q (.ref l) (upd H l (.lst vs'))):=by subst h; exact call_sorted_waysP
end L2
namespace L2
open PySem PySem.Spec PySem.W PyProof.Rows
def OpensR (sites:List Str) (x:V) (os:List (List Str)):Prop:=
 os.Nodup/\os.Pairwise (fun a b=>lexLt (b.map Atm.s) (a.map Atm.s)=false)/\∀ ss,ss ∈ os ↔ ss ≠ []/\ss.Sublist sites/\limB x ss.length=true
theorem OpensR.uniq {sites:List Str} {x:V} {os os':List (List Str)} (h:OpensR sites x os) (h':OpensR sites x os'):os=os':=
 rise_uniq (fun f=>f.map Atm.s) (fun a b e=>atms_inj e) ((List.perm_ext_iff_of_nodup h.1 h'.1).mpr fun a=>(h.2.2 a).trans (h'.2.2 a).symm) h.2.1 h'.2.1
def spAllR:Sp:=fun vs H Q _=>∃ (c:Addr) (sites:List Str) (x:V) (d:PyData),vs=[.ref c]/\CaseS H c sites x d /\
 ∀ (H':Hp) (D:Addr) (us:List V) (os:List (List Str)),Same H H'->H D=none->H' D=some (.lst us)->Tups H' us os->OpensR sites x os->os.length<=1024->Q (.ref D) H'
theorem call_sorted_tupsK (K:PySem.W.Frag) {X:Cx} (h:X.K=K):CallR X (.builtin "sorted") (fun xs H Q=>∃ (a:Addr) (vs:List V) (kd:Nat->Bool),xs=[.ref a]/\SqL K H a vs/\(∀ v ∈ vs,TupK H kd v) /\
  ∀ (l:Addr) (vs':List V),H l=none->vs'.Perm vs->vs'.Pairwise (fun u v=>lexLt (keyV H v) (keyV H u)=false)->Q (.ref l) (upd H l (.lst vs'))):=by subst h; exact call_sorted_tups
end L2
namespace L2
open PySem PySem.Spec PyProof.Rows
def Rising (l:List Str):Prop:=l.Pairwise fun a b=>a.cps.toList < b.cps.toList
theorem Rising.nodup {l:List Str} (h:Rising l):l.Nodup:=List.Pairwise.imp (fun {a b} z e=>by subst e; exact lt_irr _ z) h
theorem Rising.pw {l:List Str} (h:Rising l):l.Pairwise fun a b=>¬ b.cps.toList < a.cps.toList:=List.Pairwise.imp (fun {a b} z=>List.lt_asymm z) h
theorem rising_of {l:List Str} (h:l.Pairwise fun a b=>¬ b.cps.toList < a.cps.toList) (nd:l.Nodup):Rising l:=by
 induction l with
 | nil=>exact .nil
 | cons x l ih=>
  rw [List.pairwise_cons] at h
  rw [List.nodup_cons] at nd
  refine List.pairwise_cons.mpr ⟨fun y hy=>?_,ih h.2 nd.2⟩
  by_cases z:x.cps.toList < y.cps.toList
  ·exact z
  ·exact absurd (str_anti (h.1 y hy) z) (fun e=>nd.1 (e ▸ hy))
theorem rising_sub:∀ {ss l:List Str},Rising ss->Rising l->(∀ s ∈ ss,s ∈ l)->ss.Sublist l
 | [],l,_,_,_=>List.nil_sublist _
 | x :: ss,[],_,_,h=>absurd (h x (by simp)) (by simp)
 | x :: ss,y :: l,h1,h2,h=>by
  have h1':=List.pairwise_cons.mp h1
  have h2':=List.pairwise_cons.mp h2
  by_cases e:x=y
  ·subst e
   refine (rising_sub h1'.2 h2'.2 fun s hs=>?_).cons₂ _
   rcases List.mem_cons.mp (h s (List.mem_cons_of_mem _ hs)) with rfl | z
   ·exact absurd (h1'.1 _ hs) (lt_irr _)
   ·exact z
  ·refine (rising_sub h1 h2'.2 fun s hs=>?_).cons _
   rcases List.mem_cons.mp (h s hs) with rfl | z
   ·have hx:=(List.mem_cons.mp (h x (by simp))).resolve_left e
    rcases List.mem_cons.mp hs with rfl | hs
    ·exact absurd rfl e
    ·exact absurd (List.lt_trans (h1'.1 _ hs) (h2'.1 _ hx)) (lt_irr _)
   ·exact z
theorem Rising.sub {ss l:List Str} (h:Rising l) (s:ss.Sublist l):Rising ss:=List.Pairwise.sublist s h
theorem rise_names {rs:List Row} (h:RiseR rs) (nd:(rs.map (·.1)).Nodup):Rising (rs.map (·.1)):=by
 refine rising_of (List.pairwise_map.mpr (List.Pairwise.imp_of_mem (fun {u v} hu hv z=>?_) h)) nd
 intro lt
 have:lexLt (rk v) (rk u)=true:=by
  unfold rk
  rw [lexLt,if_neg (fun e=>by injection e with e; rw [e] at lt; exact lt_irr _ lt)]
  exact decide_eq_true lt
 rw [this] at z
 cases z
theorem rising_iff {ss ss':List Str} (nd:ss'.Nodup) (mem:∀ k,k ∈ ss' ↔ k ∈ ss) (srt:sortedS ss'=true):ss'=ss ↔ Rising ss:=
 ⟨fun e=>e ▸ rising_of (sorted_pw srt) nd,fun h=>sorted_eq (sorted_pw srt) h.pw (perm_of_mem nd h.nodup mem)⟩
def tyD:PyData->String
 | .none=>"NoneType"
 | .bool _=>"bool"
 | .int _=>"int"
 | .str _=>"str"
 | .list _=>"list"
 | .tuple _=>"tuple"
 | .dict _=>"dict"
theorem Dat.ty {K:PySem.W.Frag} {H:Hp} {v:V} {d:PyData} (h:Dat H v d):TyOf K H v (.type (tyD d)):=by
 cases h with
 | non=>exact .non
 | bl b=>exact .bl b
 | int i=>exact .int i
 | str x=>exact .str x
 | tup e _=>exact .tup e
 | lst e _=>exact .lst e
theorem Dat.notStr {K:PySem.W.Frag} {H:Hp} {v:V} {d:PyData} (h:Dat H v d) (n:∀ s,d ≠ .str s):NotStr K H v:=by
 refine ⟨_,h.ty,?_⟩
 cases d with
 | str s=>exact absurd rfl (n s)
 | _=>rfl
theorem TyOf.same {K:PySem.W.Frag} {H H':Hp} {x:V} {t:Value} (h:TyOf K H x t) (s:Same H H'):TyOf K H' x t:=by
 cases h with
 | non=>exact .non
 | bl x=>exact .bl x
 | int i=>exact .int i
 | str x=>exact .str x
 | flt x=>exact .flt x
 | lst e=>exact .lst (s _ _ e)
 | frz e=>exact .frz (s _ _ e)
 | tup e=>exact .tup (s _ _ e)
 | dK e=>exact .dK (s _ _ e)
 | dT e=>exact .dT (s _ _ e)
 | ins e c h1 h2 h3 h4=>exact .ins (s _ _ e) c h1 h2 h3 h4
def NoTup (K:PySem.W.Frag) (H:Hp) (v:V):Prop:=∃ ty,TyOf K H v ty/\PySem.W.kitOne K ty (.type "tuple")=some false
theorem Dat.noTup {K:PySem.W.Frag} {H:Hp} {v:V} {d:PyData} (h:Dat H v d) (n:∀ s,d ≠ .tuple s):NoTup K H v:=by
 refine ⟨_,h.ty,?_⟩
 cases d with
 | tuple s=>exact absurd rfl (n s)
 | _=>rfl
theorem noTup_dict {K:PySem.W.Frag} {H:Hp} {a:Addr} {kvs:List (Key × V)} (h:H a=some (.dK kvs)):NoTup K H (.ref a):=⟨_,.dK h,rfl⟩
theorem op_in_dat {X:Cx} (hu:X.A.units + 64 < cLine):OpR X (compareOp .In) (fun x y H Q=>∃ d ds,Dat H x d/\Dat H y (.list ds)/\d.canLay0=true/\PyData.canLayAll0 ds=true/\d.depth<=60/\Q (.bl (ds.any fun e=>PyData.eqv e d)) H):=by
 intro pins s σ H x y v u Q I rx ry h
 obtain ⟨d,ds,h1,h2,c1,c2,hd,q⟩:=h
 obtain ⟨as,r1⟩:=h1.reads I rx
 obtain ⟨bs,r2⟩:=h2.reads I ry
 exact SeqAt.in_list_reads r2 r1 c2 c1 (by have:=Nat.min_le_right (PyData.depthAll ds) d.depth; (first|lia|omega)) ⟨.bl _,H,I,rfl,q⟩
theorem eqv_strs:∀ (ss:List Str) (ds:List PyData),PyData.eqvAll (ss.map PyData.str) ds=true ↔ ds=ss.map PyData.str
 | [],[]=>by simp [PyData.eqvAll]
 | [],d :: ds=>by simp [PyData.eqvAll]
 | x :: ss,[]=>by simp [PyData.eqvAll]
 | x :: ss,d :: ds=>by
  rw [List.map_cons,PyData.eqvAll,Bool.and_eq_true,eqv_strs ss ds]
  constructor
  ·rintro ⟨h,rfl⟩
   cases d with
   | str y=>
    rw [PyData.eqv] at h
    rw [eq_of_beq h]
   | _=>rw [PyData.eqv] at h; cases h
  ·intro e
   injection e with e1 e2
   subst e1
   refine ⟨?_,e2⟩
   rw [PyData.eqv]
   simp
theorem eqv_list (ss:List Str) (ds:List PyData):PyData.eqv (.list (ss.map PyData.str)) (.list ds)=true ↔ ds=ss.map PyData.str:=by
 rw [PyData.eqv]; exact eqv_strs ss ds
theorem eqv_tuple (ss:List Str) (ds:List PyData):PyData.eqv (.tuple (ss.map PyData.str)) (.tuple ds)=true ↔ ds=ss.map PyData.str:=by
 rw [PyData.eqv]; exact eqv_strs ss ds
theorem Dats.len {H:Hp}:∀ {xs:List V} {ds:List PyData},Dats H xs ds->xs.length=ds.length
 | _,_,.nil=>rfl
 | _,_,.cons _ r=>congrArg (· + 1) r.len
theorem Dats.at {H:Hp}:∀ {xs:List V} {ds:List PyData},Dats H xs ds->∀ {i:Nat} {v:V},xs[i]? = some v->∃ d,ds[i]? = some d/\Dat H v d
 | _,_,.nil,i,v,e=>by simp at e
 | _,_,.cons h r,0,v,e=>by
  simp only [List.getElem?_cons_zero,Option.some.injEq] at e
  subst e
  exact ⟨_,rfl,h⟩
 | _,_,.cons h r,i + 1,v,e=>by
  simp only [List.getElem?_cons_succ] at e
  obtain ⟨d,e1,e2⟩:=r.at e
  exact ⟨d,by simpa using e1,e2⟩
theorem Dats.txt {H:Hp}:∀ {xs:List V} {ss:List Str},Dats H xs (ss.map PyData.str)->xs=ss.map V.str
 | xs,[],h=>by cases h; rfl
 | xs,x :: ss,h=>by
  cases h with
  | cons h1 h2=>
   cases h1
   rw [h2.txt]
   rfl
def nameD:PyData->Bool
 | .str s=>nameB s
 | _=>false
theorem names_all:∀ {ds:List PyData},(ds.map nameD).all id=true->∃ ss:List Str,ds=ss.map PyData.str/\∀ s ∈ ss,nameB s=true
 | [],_=>⟨[],rfl,fun s hs=>nomatch hs⟩
 | d :: ds,h=>by
  rw [List.map_cons,List.all_cons,Bool.and_eq_true] at h
  obtain ⟨ss,rfl,hn⟩:=names_all h.2
  cases d with
  | str x=>exact ⟨x :: ss,rfl,fun s hs=>(List.mem_cons.mp hs).elim (fun e=>e ▸ h.1) (hn s)⟩
  | _=>exact absurd (show false=true from h.1) (by decide)
theorem all_names {ss:List Str} (h:∀ s ∈ ss,nameB s=true):((ss.map PyData.str).map nameD).all id=true:=by
 rw [List.map_map,List.all_map,List.all_eq_true]
 exact fun s hs=>h s hs
theorem str_inj {ss ss':List Str} (h:ss.map PyData.str=ss'.map PyData.str):ss=ss':=by
 induction ss generalizing ss' with
 | nil=>cases ss' with
  | nil=>rfl
  | cons _ _=>cases h
 | cons x ss ih=>cases ss' with
  | nil=>cases h
  | cons y ss'=>
   injection h with h1 h2
   injection h1 with h1
   rw [h1,ih h2]
theorem Tups.dats {H:Hp} {us:List V} {fs:List (List Str)} (h:Tups H us fs):Dats H us (fs.map fun f=>PyData.tuple (f.map PyData.str)):=by
 induction h with
 | nil=>exact .nil
 | cons e _ ih=>exact .cons (.tup e (dats_strs H _)) ih
theorem lay_tups:∀ {fs:List (List Str)},(∀ f ∈ fs,∀ s ∈ f,nameB s=true)->PyData.canLayAll0 (fs.map fun f=>PyData.tuple (f.map PyData.str))=true
 | [],_=>rfl
 | f :: fs,h=>by
  rw [List.map_cons,PyData.canLayAll0,Bool.and_eq_true,PyData.canLay0]
  exact ⟨lay_strs (h f (by simp)),lay_tups fun g hg=>h g (List.mem_cons_of_mem _ hg)⟩
def spRising (K:PySem.W.Frag):Sp:=fun vs H Q _=>∃ (t:Addr) (xs:List V) (ds:List PyData),vs=[.ref t]/\(H t=some (.lst xs)\/H t=some (.tup xs))/\Dats H xs ds/\(∀ s,PyData.str s ∈ ds->s.length<=1000)/\xs.length<=60 /\
 ∀ (b:Bool) (H':Hp),Same H H'->(b=true ↔ ∃ ss:List Str,ds=ss.map PyData.str/\(∀ s ∈ ss,nameB s=true)/\Rising ss)->Q (.bl b) H'
def IsOpD (sites:List Str) (x:V) (ds:List PyData):Prop:=∃ ss:List Str,ds=ss.map PyData.str/\ss ≠ []/\ss.Sublist sites/\limB x ss.length=true
def TupOf (H:Hp) (v:V) (ds:List PyData):Prop:=∃ (t:Addr) (xs:List V),v=.ref t/\H t=some (.tup xs)/\Dats H xs ds/\(∀ s,PyData.str s ∈ ds->s.length<=1000)/\xs.length<=60
def spIsOp (K:PySem.W.Frag):Sp:=fun vs H Q _=>∃ (c:Addr) (sites:List Str) (x:V) (d:PyData) (v:V),vs=[.ref c,v]/\CaseS H c sites x d/\Rising sites/\(∀ s ∈ sites,nameB s=true) /\
 ((∃ ds,TupOf H v ds/\∀ (b:Bool) (H':Hp),Same H H'->(b=true ↔ IsOpD sites x ds)->Q (.bl b) H')\/(NoTup K H v/\∀ H',Same H H'->Q (.bl false) H'))
def spIsIt (K:PySem.W.Frag):Sp:=fun vs H Q _=>∃ (c e:Addr) (sites:List Str) (x:V) (d:PyData) (v:V) (us:List V) (os:List (List Str)),vs=[.ref c,v,.ref e]/\CaseS H c sites x d/\Rising sites/\(∀ s ∈ sites,nameB s=true) /\
 H e=some (.lst us)/\Tups H us os/\OpensR sites x os/\((∃ ds,TupOf H v ds/\PyData.canLayAll0 ds=true/\PyData.depthAll ds<=50)\/NoTup K H v)/\∀ H',Same H H'->Q (.bl true) H'
end L2
namespace HT
open PySem PySem.Spec PyProof.Rows
section
variable {prog:Program} {w:World} {A:Around} {E:Value->Shared->Prop} {s:Shared}
theorem back_places (n:Nat):Builtin.Slice.slicePlaces ((n:Int) - 1) (-1) (-1)<=n:=by
 unfold Builtin.Slice.slicePlaces
 have h0:¬ ((-1:Int) > 0):=by decide
 rw [if_neg h0,show (- (-1:Int))=1 by decide,Int.ediv_one]
 split <;> (first|lia|omega)
theorem getItem_tuple_back {t sl:Addr} {items:Array Value} {tk:Tok} {Q:Value->Shared->Prop} (ht:IsTup s.heap t items) (hs:s.heap.IsSliceOf sl .none .none (.int (-1) tk)) (hsz:items.size<=sizeLine)
  (h:∀ ys:List Value,ys.length<=items.size->(∀ (j:Nat) (y:Value),ys[j]? = some y->∃ i:Nat,items[i]? = some y)->Q (.ref s.heap.objs.size) { s with heap:=s.heap.push { cls:=.type "tuple",data:=.seq ys.toArray } }) :
  wpAny (model prog w) A (getItem (.ref t) (.ref sl)) Q E s:=by
 obtain ⟨os,hos,hcs,hds⟩:=id hs
 have hTs:s.TypeIs (.ref sl) "slice":=⟨os,hos,hcs⟩
 have app:∀ {R:Int × Int × Nat->Shared->Prop},(∀ n lo:Int,∀ k:Nat,k<=items.size->R (lo,-1,k) s)->wpAny (model prog w) A.in1 (Builtin.Slice.sliceApplied (.ref sl) (pure (items.size:Int))) R E s:=by
  intro R q
  unfold Builtin.Slice.sliceApplied Builtin.Slice.sliceFields
  refine wpAny_bind (wpAny_bind (wpAny_field hos hds (x:=.none) rfl (wpAny_bind (wpAny_field hos hds (x:=.none) rfl (wpAny_bind (wpAny_field hos hds (x:=.int (-1) tk) rfl (wpAny_pure ?_)))))))
  refine wpAny_bind (slicePart_int ?_)
  show wpAny _ _ (if ((-1:Int) == 0)=true then _ else _) _ _ s
  rw [if_neg (by decide)]
  refine wpAny_bind (slicePart_none (wpAny_bind (slicePart_none (wpAny_bind (wpAny_pure ?_)))))
  refine wpAny_pure (q 0 _ _ ?_)
  exact back_places items.size
 unfold getItem
 try with_reducible refine wpAny_holding ?_
 first | refine wpAny_bind (wpAny_pure ?_) | skip
 refine wpAny_bind (wpAny_sequenceKey ht.typeIs (by decide) ?_)
 refine wpAny_bind (wpAny_callSpecial?_slot (name:=Str.ofString "__getitem__") ht.typeIs PyProof.Rows.slot_tuple_getitem
  (wpAny_call_entry PyProof.Rows.slot_tuple_getitem ht.typeIs entry_tuple_getitem ?_ (args_tuple_getitem _ _)))
 show wpAny _ _ (Builtin.Tuple.tupleItemsOf (.ref t) >>= _) _ _ s
 refine wpAny_bind (tupleItemsOf_ ht ?_)
 refine wpAny_bind (wpAny_typeOf hTs ?_)
 rw [if_pos (by decide)]
 refine wpAny_bind (app fun _ lo k hk=>?_)
 show wpAny _ _ (if (lo == 0 && (-1:Int) == 1 && k == items.size)=true then _ else _) _ _ s
 rw [if_neg (by simp)]
 have l1:((List.range k).filterMap fun (m:Nat)=>items[(lo + (m:Int) * -1).toNat]?).length<=items.size:=Nat.le_trans (List.length_filterMap_le _ _) (by rw [List.length_range]; exact hk)
 have q:=h ((List.range k).filterMap fun (m:Nat)=>items[(lo + (m:Int) * -1).toNat]?) l1 fun j y e=>by
  obtain ⟨m,_,e2⟩:=List.mem_filterMap.mp (List.mem_of_getElem? e)
  exact ⟨_,e2⟩
 have sz:sizeOk (.seq ((List.range k).filterMap fun (m:Nat)=>items[(lo + (m:Int) * -1).toNat]?).toArray):=by
  show ((List.range k).filterMap fun (m:Nat)=>items[(lo + (m:Int) * -1).toNat]?).toArray.size<=sizeLine
  rw [List.size_toArray]
  (first|lia|omega)
 first
  | exact wpAny_bind (m:=Builtin.Tuple.tupleExact _) (wpAny_newObj_type (wpAny_pure ⟨_,rfl,wpAny_pure q⟩) sz)
  | exact wpAny_bind (m:=Builtin.Tuple.tupleExact _) (wpAny_newObj_type (wpAny_bind (wpAny_pure (wpAny_pure ⟨_,rfl,wpAny_pure q⟩))) sz)
  | exact wpAny_bind (wpAny_bind (m:=Builtin.Tuple.tupleExact _) (wpAny_newObj_type (wpAny_pure (wpAny_pure ⟨_,rfl,wpAny_pure q⟩)) sz))
  | exact wpAny_bind (wpAny_bind (m:=Builtin.Tuple.tupleExact _) (wpAny_newObj_type (wpAny_pure ⟨_,rfl,wpAny_pure q⟩) sz))
end
end HT
namespace L2
open PySem PySem.Spec PyProof.Rows
theorem vals_pick {xs:List V} {its:List Value} (r:Vals xs its):∀ {ys:List Value},(∀ (j:Nat) (y:Value),ys[j]? = some y->∃ i:Nat,its.toArray[i]? = some y)->∃ zs:List V,Vals zs ys/\∀ z ∈ zs,z ∈ xs:=by
 have back:∀ {xs:List V} {its:List Value},Vals xs its->∀ (i:Nat) (y:Value),its[i]? = some y->∃ z ∈ xs,RelV z y:=by
  intro xs its r
  induction r with
  | nil=>intro i y e; simp at e
  | cons a b ih=>
   intro i y e
   cases i with
   | zero=>
    simp only [List.getElem?_cons_zero,Option.some.injEq] at e
    subst e
    exact ⟨_,List.mem_cons_self,a⟩
   | succ i=>
    obtain ⟨z,hz,q⟩:=ih i y (by simpa using e)
    exact ⟨z,List.mem_cons_of_mem _ hz,q⟩
 intro ys
 induction ys with
 | nil=>intro _; exact ⟨[],.nil,fun z hz=>nomatch hz⟩
 | cons y ys ih=>
  intro h
  obtain ⟨i,e⟩:=h 0 y rfl
  obtain ⟨z,hz,q⟩:=back r i y (by simpa using e)
  obtain ⟨zs,r2,m⟩:=ih fun j u e=>h (j + 1) u (by simpa using e)
  exact ⟨z :: zs,.cons q r2,fun v hv=>(List.mem_cons.mp hv).elim (fun e=>e ▸ hz) (m v)⟩
def tBack (K:PySem.W.Frag) (te:TE):TE:=fun σ H Q=>te σ H fun x H1=>∃ (a:Addr) (xs:List V),x=.ref a/\SqT K H1 a xs/\∀ (p:Addr) (zs:List V),H1 p=none->zs.length<=xs.length->(∀ z ∈ zs,z ∈ xs)->Q (.ref p) (upd H1 p (.tup zs))
theorem pe_back {X:Cx} {e st:Expr} {te:TE} {pos p2:Pos} (he:PE X e te) (hst:PE X st (tUn (rU fun i=>.int (-i)) (tC (.int 1)))):PE X (.Subscript e (.Slice none none (some st) p2) pos) (tBack X.K te):=by
 intro pins s σ H Q I h
 refine Subscript_ (thn (he pins s σ H _ I h) fun v s1 ⟨x,H1,I1,r1,q1⟩=>?_)
 obtain ⟨a,xs,rfl,ht,q⟩:=q1
 cases r1
 refine wpAny_Slice ?_
 rw [evalPart_none]
 refine wpAny_pure ?_
 refine wpAny_pure ?_
 rw [evalPart_some]
 refine thn (hst pins s1 σ H1 (fun y H2=>y=.int (-1)/\H2=H1) I1 ⟨_,rfl,rfl,rfl⟩) fun u s2 ⟨y,H2,I2,r2,e2,e3⟩=>?_
 subst e2 e3
 obtain ⟨tk,rfl⟩:=r2
 have I3:Inv X pins σ H2 { s2 with heap:=s2.heap.push { cls:=.type "slice",data:=.fields #[.none,.none,.int (-1) tk] } }:=I2.kept (t':=s2.toks) fun b ob q=>Heap.get?_push_of_some _ q
 obtain ⟨its,r,p,hz⟩:=I3.tuple ht
 have hl:its.toArray.size=xs.length:=by rw [List.size_toArray]; exact r.length.symm
 refine tail_any (ops:=[.ref a,.ref s2.heap.objs.size]) p.typeIs PyProof.Rows.slot_tuple_getitem.lookup ?_ (by with_unfolding_all rfl)
 refine HT.getItem_tuple_back (tk:=tk) p (Heap.IsSliceOf.new ..) (by rw [hl]; exact hz) fun ys l1 m1=>?_
 obtain ⟨zs,rz,mz⟩:=vals_pick r m1
 have lz:=rz.length
 refine ⟨.ref _,_,I3.laid (t':=s2.toks) (o:=.tup zs) (fun b ob q=>Heap.get?_push_of_some _ q) (Nat.le_refl _) ?_,rfl,q _ zs (I3.hok.fresh (Nat.le_refl _)) (by (first|lia|omega)) mz⟩
 exact ⟨by (first|lia|omega),ys,rz,IsTup.new _ _,TupD.new rfl rfl⟩
end L2
namespace L2
open PySem PySem.Spec PyProof.Rows
def tGood (Φ:St->Hp->Prop) (Ψ:Hp->V->Prop):TE:=fun σ H Q=>Φ σ H/\∀ v H',Same H H'->Ψ H' v->Q v H'
def tGoods (Φ:St->Hp->Prop) (Ψ:Hp->V->Prop) (n:Nat):TA:=fun σ H Q=>Φ σ H/\∀ vs H',Same H H'->(∀ v ∈ vs,Ψ H' v)->vs.length=n->Q vs H'
def Stay (Φ:St->Hp->Prop):Prop:=∀ σ H H',Φ σ H->Same H H'->Φ σ H'
def StayV (Ψ:Hp->V->Prop):Prop:=∀ v H H',Ψ H v->Same H H'->Ψ H' v
theorem PE.weak {X:Cx} {e:Expr} {t t':TE} (h:PE X e t) (w:∀ σ H Q,t' σ H Q->t σ H Q):PE X e t':=fun pins s σ H Q I q=>h pins s σ H Q I (w σ H Q q)
theorem PE.as {X:Cx} {e:Expr} {Φ:St->Hp->Prop} {Ψ Ψ':Hp->V->Prop} (h:PE X e (tGood Φ Ψ)) (w:∀ H v,Ψ H v->Ψ' H v):PE X e (tGood Φ Ψ'):=
 h.weak fun σ H Q ⟨a,k⟩=>⟨a,fun v H' s p=>k v H' s (w _ _ p)⟩
theorem pa_good0 {X:Cx} {Φ:St->Hp->Prop} {Ψ:Hp->V->Prop}:PA X [] (tGoods Φ Ψ 0):=fun pos pins s σ H Q I ⟨_,k⟩=>pa_nil pos pins s σ H Q I (k [] H (Same.refl _) (fun v hv=>nomatch hv) rfl)
theorem pa_good {X:Cx} {e:Expr} {es:List Expr} {n:Nat} {Φ:St->Hp->Prop} {Ψ:Hp->V->Prop} (st:Stay Φ) (sv:StayV Ψ) (h:PE X e (tGood Φ Ψ)) (hr:PA X es (tGoods Φ Ψ n)) (hs:starEach (e :: es) X.env=(false,eval e X.env) :: starEach es X.env:=by rfl):PA X (e :: es) (tGoods Φ Ψ (n + 1)):=
 fun pos pins s σ H Q I ⟨a,k⟩=>pa_cons h hr hs pos pins s σ H Q I ⟨a,fun v H1 s1 p1=>⟨st _ _ _ a s1,fun vs H2 s2 p2 l2=>k (v :: vs) H2 (s1.trans s2) (fun u hu=>(List.mem_cons.mp hu).elim (fun e=>e ▸ sv _ _ _ p1 s2) (p2 u)) (congrArg (· + 1) l2)⟩⟩
def Sx (k:Nat) (H:Hp) (v:V):Prop:=∃ s:Str,v=.str s/\s.length<=k/\PyData.strOk s=true
def OkV (H:Hp) (v:V):Prop:=∃ d,Dat H v d/\d.canLay0=true/\d.depth<=3/\∀ s,d=.str s->s.length<=1000
def TxT (n:Nat) (H:Hp) (v:V):Prop:=∃ (t:Addr) (xs:List V),v=.ref t/\H t=some (.tup xs)/\(∀ u ∈ xs,OkV H u)/\xs.length<=n
def TxS (n:Nat) (H:Hp) (v:V):Prop:=∃ (t:Addr) (ss:List Str),v=.ref t/\H t=some (.tup (ss.map V.str))/\(∀ s ∈ ss,s.length<=100/\PyData.strOk s=true)/\ss.length<=n
def OkT (K:PySem.W.Frag) (H:Hp) (v:V):Prop:=(∃ ds,TupOf H v ds/\PyData.canLayAll0 ds=true/\PyData.depthAll ds<=50)\/NoTup K H v
theorem OkV.stay:StayV OkV:=fun v H H' ⟨d,h,r⟩ s=>⟨d,h.same s,r⟩
theorem TxT.stay {n:Nat}:StayV (TxT n):=fun v H H' ⟨t,xs,e,h,m,l⟩ s=>⟨t,xs,e,s _ _ h,fun u hu=>OkV.stay _ _ _ (m u hu) s,l⟩
theorem TupOf.same {H H':Hp} {v:V} {ds:List PyData} (h:TupOf H v ds) (s:Same H H'):TupOf H' v ds:=by
 obtain ⟨t,xs,e,ht,dx,r⟩:=h
 exact ⟨t,xs,e,s _ _ ht,dx.mono fun a o z _=>s a o z,r⟩
theorem OkT.stay {K:PySem.W.Frag}:StayV (OkT K):=fun v H H' h s=>by
 rcases h with ⟨ds,h,r⟩ | ⟨ty,h,r⟩
 ·exact .inl ⟨ds,h.same s,r⟩
 ·exact .inr ⟨ty,h.same s,r⟩
theorem Sx.ok {k:Nat} (hk:k<=1000) {H:Hp} {v:V} (h:Sx k H v):OkV H v:=by
 obtain ⟨s,rfl,l,o⟩:=h
 exact ⟨_,.str s,o,Nat.zero_le _,fun s' e=>by injection e with e; subst e; (first|lia|omega)⟩
theorem TxS.txt {n:Nat} {H:Hp} {v:V} (h:TxS n H v):TxT n H v:=by
 obtain ⟨t,ss,rfl,ht,m,l⟩:=h
 refine ⟨t,_,rfl,ht,fun u hu=>?_,by rw [List.length_map]; exact l⟩
 obtain ⟨s,hs,rfl⟩:=List.mem_map.mp hu
 obtain ⟨a,b⟩:=m s hs
 exact Sx.ok (k:=100) (by decide) ⟨s,rfl,a,b⟩
theorem okv_dats {H:Hp}:∀ {xs:List V},(∀ u ∈ xs,OkV H u)->∃ ds,Dats H xs ds/\PyData.canLayAll0 ds=true/\PyData.depthAll ds<=3/\∀ s,PyData.str s ∈ ds->s.length<=1000
 | [],_=>⟨[],.nil,rfl,Nat.zero_le _,fun s hs=>nomatch hs⟩
 | v :: xs,h=>by
  obtain ⟨d,h1,h2,h3,h4⟩:=h v (by simp)
  obtain ⟨ds,i1,i2,i3,i4⟩:=okv_dats (xs:=xs) fun u hu=>h u (List.mem_cons_of_mem _ hu)
  refine ⟨d :: ds,.cons h1 i1,?_,?_,fun s hs=>?_⟩
  ·rw [PyData.canLayAll0,h2,i2]; rfl
  ·rw [PyData.depthAll]; (first|lia|omega)
  ·rcases List.mem_cons.mp hs with e | hs
   ·exact h4 s e.symm
   ·exact i4 s hs
theorem TxT.okT {n:Nat} (hn:n<=60) {K:PySem.W.Frag} {H:Hp} {v:V} (h:TxT n H v):OkT K H v:=by
 obtain ⟨t,xs,rfl,ht,m,l⟩:=h
 obtain ⟨ds,i1,i2,i3,i4⟩:=okv_dats m
 exact .inl ⟨ds,⟨t,xs,rfl,ht,i1,i4,by (first|lia|omega)⟩,i2,by (first|lia|omega)⟩
theorem TxS.okV {n:Nat} {H:Hp} {v:V} (h:TxS n H v):OkV H v:=by
 obtain ⟨t,ss,rfl,ht,m,l⟩:=h
 refine ⟨_,.tup ht (dats_strs H ss),?_,?_,fun s e=>by cases e⟩
 ·simp only [PyData.canLay0]
  clear l ht
  induction ss with
  | nil=>rfl
  | cons x ss ih=>
   rw [List.map_cons,PyData.canLayAll0,ih fun s hs=>m s (List.mem_cons_of_mem _ hs),PyData.canLay0,(m x (by simp)).2]
   rfl
 ·simp only [PyData.depth,depth_strs]; decide
def LxS (n:Nat) (H:Hp) (v:V):Prop:=∃ (t:Addr) (ss:List Str),v=.ref t/\H t=some (.lst (ss.map V.str))/\(∀ s ∈ ss,s.length<=100/\PyData.strOk s=true)/\ss.length<=n
theorem LxS.okV {n:Nat} {H:Hp} {v:V} (h:LxS n H v):OkV H v:=by
 obtain ⟨t,ss,rfl,ht,m,l⟩:=h
 refine ⟨_,.lst ht (dats_strs H ss),?_,?_,fun s e=>by cases e⟩
 ·simp only [PyData.canLay0]
  clear l ht
  induction ss with
  | nil=>rfl
  | cons x ss ih=>
   rw [List.map_cons,PyData.canLayAll0,ih fun s hs=>m s (List.mem_cons_of_mem _ hs),PyData.canLay0,(m x (by simp)).2]
   rfl
 ·simp only [PyData.depth,depth_strs]; decide
theorem LxS.okT {n:Nat} {K:PySem.W.Frag} {H:Hp} {v:V} (h:LxS n H v):OkT K H v:=by
 obtain ⟨t,ss,rfl,ht,m,l⟩:=h
 exact .inr ((Dat.lst ht (dats_strs H ss)).noTup fun s e=>by cases e)
theorem Sx.okT {k:Nat} {K:PySem.W.Frag} {H:Hp} {v:V} (h:Sx k H v):OkT K H v:=by
 obtain ⟨s,rfl,l,o⟩:=h
 exact .inr ((Dat.str s).noTup fun s e=>by cases e)
section
variable {X:Cx} {Φ:St->Hp->Prop} {a b:Expr} {pos:Pos} {n m:Nat}
theorem g_dat {e:Expr} {v:V} {d:PyData} (h:PE X e (tC v)) (hd:∀ H,Dat H v d) {Ψ:Hp->V->Prop} (w:∀ H,Dat H v d->Ψ H v):PE X e (tGood Φ Ψ):=h.weak fun σ H Q ⟨_,k⟩=>k v H (Same.refl _) (w H (hd H))
theorem g_cat (st:Stay Φ) (big:n + m<=1000) (ha:PE X a (tGood Φ (TxT n))) (hb:PE X b (tGood Φ (TxT m))):PE X (.BinOp a .Add b pos) (tGood Φ (TxT (n + m))):=
 (pe_op (op_catTA X.K rfl) ha hb).weak fun σ H Q ⟨f,k⟩=>by
  refine ⟨f,fun v H1 s1 p1=>⟨st _ _ _ f s1,fun u H2 s2 p2=>?_⟩⟩
  obtain ⟨t,xs,rfl,ht,mx,lx⟩:=TxT.stay _ _ _ p1 s2
  obtain ⟨q,ys,rfl,hq,my,ly⟩:=p2
  have s12:=s1.trans s2
  have sl:1000 < sizeLine:=by decide
  refine ⟨t,q,xs,ys,rfl,rfl,SqT.of ht,SqT.of hq,by (first|lia|omega),fun e=>?_,fun _ e=>?_,fun _ _ p hp=>?_⟩
  ·exact k _ _ s12 ⟨q,ys,rfl,hq,my,by (first|lia|omega)⟩
  ·exact k _ _ s12 ⟨t,xs,rfl,ht,mx,by (first|lia|omega)⟩
  ·have s3:=same_upd (o:=.tup (xs ++ ys)) hp
   exact k _ _ (s12.trans s3) ⟨p,_,rfl,upd_same,fun u hu=>(List.mem_append.mp hu).elim (fun z=>OkV.stay _ _ _ (mx u z) s3) (fun z=>OkV.stay _ _ _ (my u z) s3),by rw [List.length_append]; (first|lia|omega)⟩
theorem g_catS (st:Stay Φ) (big:n + m<=1000) (ha:PE X a (tGood Φ (TxS n))) (hb:PE X b (tGood Φ (TxS m))):PE X (.BinOp a .Add b pos) (tGood Φ (TxS (n + m))):=
 (pe_op (op_catTA X.K rfl) ha hb).weak fun σ H Q ⟨f,k⟩=>by
  refine ⟨f,fun v H1 s1 p1=>⟨st _ _ _ f s1,fun u H2 s2 p2=>?_⟩⟩
  obtain ⟨t,xs,rfl,ht,mx,lx⟩:=p1
  obtain ⟨q,ys,rfl,hq,my,ly⟩:=p2
  have s12:=s1.trans s2
  have sl:1000 < sizeLine:=by decide
  refine ⟨t,q,_,_,rfl,rfl,SqT.of (s2 _ _ ht),SqT.of hq,by rw [List.length_map,List.length_map]; (first|lia|omega),fun e=>?_,fun _ e=>?_,fun _ _ p hp=>?_⟩
  ·exact k _ _ s12 ⟨q,ys,rfl,hq,my,by (first|lia|omega)⟩
  ·exact k _ _ s12 ⟨t,xs,rfl,s2 _ _ ht,mx,by (first|lia|omega)⟩
  ·have s3:=same_upd (o:=.tup (xs.map V.str ++ ys.map V.str)) hp
   refine k _ _ (s12.trans s3) ⟨p,xs ++ ys,rfl,by rw [upd_same,List.map_append],fun u hu=>(List.mem_append.mp hu).elim (mx u) (my u),by rw [List.length_append]; (first|lia|omega)⟩
theorem g_tup0 {c:Nat}:PE X (.Tuple [] c pos) (tGood Φ (TxS 0)):=
 (pe_tup pa_nil).weak fun σ H Q ⟨f,k⟩=>⟨Nat.zero_le _,fun p hp=>k _ _ (same_upd hp) ⟨p,[],rfl,upd_same,(fun s hs=>nomatch hs),Nat.le_refl _⟩⟩
theorem g_tup1 {c:Nat} (ha:PE X a (tGood Φ OkV)) (hs:starEach [a] X.env=(false,eval a X.env) :: starEach [] X.env:=by rfl):PE X (.Tuple [a] c pos) (tGood Φ (TxT 1)):=
 (pe_tup (pa_cons ha pa_nil hs)).weak fun σ H Q ⟨f,k⟩=>⟨f,fun v H1 s1 p1=>⟨by show 1<=sizeLine; decide,fun p hp=>k _ _ (s1.trans (same_upd hp)) ⟨p,[v],rfl,upd_same,fun u hu=>by
  rw [List.mem_singleton] at hu; subst hu; exact OkV.stay _ _ _ p1 (same_upd hp),Nat.le_refl _⟩⟩⟩
theorem g_tup1S {c:Nat} (ha:PE X a (tGood Φ (Sx 100))) (hs:starEach [a] X.env=(false,eval a X.env) :: starEach [] X.env:=by rfl):PE X (.Tuple [a] c pos) (tGood Φ (TxS 1)):=
 (pe_tup (pa_cons ha pa_nil hs)).weak fun σ H Q ⟨f,k⟩=>⟨f,fun v H1 s1 ⟨z,e,l,o⟩=>⟨by show 1<=sizeLine; decide,fun p hp=>k _ _ (s1.trans (same_upd hp)) ⟨p,[z],rfl,by rw [upd_same,e]; rfl,fun u hu=>by
  rw [List.mem_singleton] at hu; subst hu; exact ⟨l,o⟩,Nat.le_refl _⟩⟩⟩
theorem g_lst0:PE X (.List [] pos) (tGood Φ (LxS 0)):=
 (pe_lst pa_nil).weak fun σ H Q ⟨f,k⟩=>⟨Nat.zero_le _,fun p hp=>k _ _ (same_upd hp) ⟨p,[],rfl,upd_same,(fun s hs=>nomatch hs),Nat.le_refl _⟩⟩
theorem g_lst1S (ha:PE X a (tGood Φ (Sx 100))) (hs:starEach [a] X.env=(false,eval a X.env) :: starEach [] X.env:=by rfl):PE X (.List [a] pos) (tGood Φ (LxS 1)):=
 (pe_lst (pa_cons ha pa_nil hs)).weak fun σ H Q ⟨f,k⟩=>⟨f,fun v H1 s1 ⟨z,e,l,o⟩=>⟨by show 1<=sizeLine; decide,fun p hp=>k _ _ (s1.trans (same_upd hp)) ⟨p,[z],rfl,by rw [upd_same,e]; rfl,fun u hu=>by
  rw [List.mem_singleton] at hu; subst hu; exact ⟨l,o⟩,Nat.le_refl _⟩⟩⟩
theorem g_list {es:List Expr} {Ψ:Hp->V->Prop} (sv:StayV Ψ) (hn:n<=1000) (h:PA X es (tGoods Φ Ψ n)):PE X (.List es pos) (tGood Φ fun H v=>∃ (l:Addr) (us:List V),v=.ref l/\H l=some (.lst us)/\(∀ u ∈ us,Ψ H u)/\us.length=n):=
 (pe_lst h).weak fun σ H Q ⟨f,k⟩=>⟨f,fun vs H1 s1 p1 l1=>⟨Nat.le_trans (by (first|lia|omega)) (show 1000<=sizeLine by decide),fun p hp=>k _ _ (s1.trans (same_upd hp)) ⟨p,vs,rfl,upd_same,fun u hu=>sv _ _ _ (p1 u hu) (same_upd hp),l1⟩⟩⟩
theorem g_back {st:Expr} {p2:Pos} (ha:PE X a (tGood Φ (TxS n))) (hst:PE X st (tUn (rU fun i=>.int (-i)) (tC (.int 1)))):PE X (.Subscript a (.Slice none none (some st) p2) pos) (tGood Φ (TxT n)):=
 (pe_back ha hst).weak fun σ H Q ⟨f,k⟩=>⟨f,fun v H1 s1 p1=>by
  obtain ⟨t,xs,e,ht,mx,lx⟩:=p1.txt
  refine ⟨t,xs,e,SqT.of ht,fun p zs hp hl hz=>k _ _ (s1.trans (same_upd hp)) ⟨p,zs,rfl,upd_same,fun u hu=>OkV.stay _ _ _ (mx u (hz u hu)) (same_upd hp),by (first|lia|omega)⟩⟩⟩
end
theorem call_sorted_tupS {X:Cx}:CallR X (.builtin "sorted") (fun xs H Q=>∃ (t:Addr) (ss:List Str),xs=[.ref t]/\H t=some (.tup (ss.map V.str))/\ss.length < 64/\∀ (l:Addr) (ss':List Str),H l=none->ss'.Perm ss->Q (.ref l) (upd H l (.lst (ss'.map V.str)))):=by
 intro pins s σ H xs us Q I r h
 obtain ⟨t,ss,rfl,ht,h64,q⟩:=h
 obtain ⟨u,rfl,ru⟩:=vals1 r
 cases ru
 obtain ⟨its,rv,pl,hz⟩:=I.tuple (SqT.of ht)
 have hl:its.length=ss.length:=by rw [<-rv.length,List.length_map]
 refine sorted_tupS pl (strs_of rv) (by (first|lia|omega)) fun h' a out ss' e ha kp he h1 h2 h3=>?_
 exact ⟨.ref a,_,I.laid (o:=.lst (ss'.map V.str)) (t':=s.toks) kp ha ⟨by rw [List.length_map,h2.length_eq,sizeLine_eq]; (first|lia|omega),out.toList,e,of_strs h1,by simpa using he⟩,rfl,q a ss' (I.hok.fresh ha) h2⟩
theorem mt_joinT {X:Cx}:MtM X "str.join" (fun x vs H Q=>∃ (z:Str) (a:Addr) (ss:List Str),x=.str z/\vs=[.ref a]/\H a=some (.tup (ss.map V.str))/\z.length<=16/\(ss.map (·.length)).sum + ss.length<=1048576/\Q (.str (Txt.join z ss)) H):=by
 intro pins s σ H x vs v us Q I rx rv h
 obtain ⟨z,a,ss,rfl,rfl,hH,hz,hw,q⟩:=h
 obtain ⟨t,rfl⟩:=rx
 obtain ⟨u,rfl,ru⟩:=rv.one
 cases ru
 obtain ⟨its,r,p,_⟩:=I.tuple (SqT.of hH)
 refine join_tupleW (ys:=ss) p (by rw [List.toList_toArray]; exact strs_are r) hz hw fun t' k=>?_
 exact ⟨.str (Txt.join z ss),H,I.tok k,⟨t',rfl⟩,q⟩
theorem sum_le {ss:List Str} (h:∀ s ∈ ss,s.length<=100):(ss.map (·.length)).sum<=ss.length * 100:=by
 induction ss with
 | nil=>exact Nat.zero_le _
 | cons x ss ih=>
  rw [List.map_cons,List.sum_cons,List.length_cons]
  have:=h x (by simp)
  have:=ih fun s hs=>h s (List.mem_cons_of_mem _ hs)
  (first|lia|omega)
theorem g_var {X:Cx} {Φ:St->Hp->Prop} {Ψ:Hp->V->Prop} {i:Nat} {e:Expr} (hv:PE X e (tVar i)) (h:∀ σ H,Φ σ H->∃ v,σ[i]? = some (some v)/\Ψ H v):PE X e (tGood Φ Ψ):=hv.weak fun σ H Q ⟨f,k⟩=>by
 obtain ⟨v,e,p⟩:=h σ H f
 exact ⟨v,e,k v H (Same.refl _) p⟩
section
variable {Φ:St->Hp->Prop} {n:Nat}
theorem w_sorted (hn:n < 64) (σ:St) (H:Hp) (Q:VK) (h:tGood Φ (LxS n) σ H Q):tCB (fun xs H Q=>∃ (t:Addr) (ss:List Str),xs=[.ref t]/\H t=some (.tup (ss.map V.str))/\ss.length < 64/\∀ (l:Addr) (ss':List Str),H l=none->ss'.Perm ss->Q (.ref l) (upd H l (.lst (ss'.map V.str)))) (tCons (tGood Φ (TxS n)) tNil) σ H Q:=by
 obtain ⟨f,k⟩:=h
 refine ⟨f,fun v H1 s1 ⟨t,ss,e,ht,m,l⟩=>⟨t,ss,by rw [e],ht,by (first|lia|omega),fun q ss' hq pm=>?_⟩⟩
 exact k _ _ (s1.trans (same_upd hq)) ⟨q,ss',rfl,upd_same,fun s hs=>m s (pm.mem_iff.mp hs),by rw [pm.length_eq]; exact l⟩
theorem w_tuple (K:PySem.W.Frag) (σ:St) (H:Hp) (Q:VK) (h:tGood Φ (TxS n) σ H Q):tCB (fun xs H Q=>∃ p ys,xs=[V.ref p]/\((SqL K H p ys/\∀ l,H l=none->Q (V.ref l) (upd H l (.tup ys)))\/(SqT K H p ys/\Q (V.ref p) H))) (tCons (tGood Φ (LxS n)) tNil) σ H Q:=by
 obtain ⟨f,k⟩:=h
 refine ⟨f,fun v H1 s1 ⟨t,ss,e,ht,m,l⟩=>⟨t,_,by rw [e],.inl ⟨SqL.of ht,fun q hq=>?_⟩⟩⟩
 exact k _ _ (s1.trans (same_upd hq)) ⟨q,ss,rfl,upd_same,m,l⟩
theorem w_list (K:PySem.W.Frag) (σ:St) (H:Hp) (Q:VK) (h:tGood Φ (LxS n) σ H Q):tCB (fun xs H Q=>∃ p ys,xs=[V.ref p]/\(SqL K H p ys\/SqT K H p ys)/\∀ l,H l=none->Q (V.ref l) (upd H l (.lst ys))) (tCons (tGood Φ (TxS n)) tNil) σ H Q:=by
 obtain ⟨f,k⟩:=h
 refine ⟨f,fun v H1 s1 ⟨t,ss,e,ht,m,l⟩=>⟨t,_,by rw [e],.inr (SqT.of ht),fun q hq=>?_⟩⟩
 exact k _ _ (s1.trans (same_upd hq)) ⟨q,ss,rfl,upd_same,m,l⟩
theorem w_join (K:PySem.W.Frag) (hn:n<=1000) (σ:St) (H:Hp) (Q:VK) (h:tGood Φ (OkT K) σ H Q):tBM K "str" (fun x vs H Q=>∃ (z:Str) (a:Addr) (ss:List Str),x=.str z/\vs=[.ref a]/\H a=some (.tup (ss.map V.str))/\z.length<=16/\(ss.map (·.length)).sum + ss.length<=1048576/\Q (.str (Txt.join z ss)) H) (tC (.str "")) (tCons (tGood Φ (TxS n)) tNil) σ H Q:=by
 obtain ⟨f,k⟩:=h
 refine ⟨rfl,f,fun v H1 s1 ⟨t,ss,e,ht,m,l⟩=>⟨_,t,ss,rfl,by rw [e],ht,by decide,?_,?_⟩⟩
 ·have:=sum_le fun s hs=>(m s hs).1
  (first|lia|omega)
 ·exact k _ _ s1 (.inr ((Dat.str _).noTup fun s e=>by cases e))
end
theorem strOk_mem {s z:Str} (h:PyData.strOk s=true) (m:∀ c ∈ z.cps.toList,c ∈ s.cps.toList):PyData.strOk z=true:=by
 unfold PyData.strOk at h ⊢
 rw [<-Array.all_toList,List.all_eq_true] at h ⊢
 exact fun c hc=>h c (m c hc)
theorem strOk_app {s z:Str} (h:PyData.strOk s=true) (h':PyData.strOk z=true):PyData.strOk (s ++ z)=true:=by
 unfold PyData.strOk at h h' ⊢
 rw [<-Array.all_toList,List.all_eq_true] at h h' ⊢
 intro c hc
 have e:(s ++ z).cps.toList=s.cps.toList ++ z.cps.toList:=by
  show (s.cps ++ z.cps).toList=_
  rw [Array.toList_append]
 rw [e] at hc
 exact (List.mem_append.mp hc).elim (h c) (h' c)
theorem cut_mem {xs:List V} {lo hi:Option Int} {u:V} (h:u ∈ cutV xs lo hi):u ∈ xs:=List.mem_of_mem_drop (List.mem_of_mem_take h)
end L2
namespace L2
open PySem PySem.Spec PyProof.Rows
theorem op_isnot_bl {X:Cx}:OpR X (compareOp .IsNot) (fun x y H Q=>∃ b c,x=.bl b/\y=.bl c/\Q (.bl (!(b == c))) H):=by
 intro pins s σ H x y v u Q I rx ry h
 obtain ⟨b,c,rfl,rfl,q⟩:=h
 cases rx
 cases ry
 have e:EP X pins σ Q (.bool (!(b == c))) s:=⟨.bl _,H,I,rfl,q⟩
 cases b <;> cases c <;> exact wpAny_pure e
end L2
namespace K11
open PySem L2
def top (i:Nat):Stmt:=PySem.Challenge.pw_openhouses_k11_openings_known.main.body.getD i (.Pass ⟨0,0,0,0⟩)
abbrev s_is_name:Stmt:=top 2
theorem sc_is_name:FnScope ["thing"] ["thing"] (defScope s_is_name):=⟨rfl,rfl,rfl,by decide +kernel,rfl,by decide +kernel,by decide +kernel⟩
abbrev s_are_rising:Stmt:=top 3
theorem sc_are_rising:FnScope ["things"] ["things"] (defScope s_are_rising):=⟨rfl,rfl,rfl,by decide +kernel,rfl,by decide +kernel,by decide +kernel⟩
abbrev s_is_opening:Stmt:=top 5
theorem sc_is_opening:FnScope ["case","thing","sites"] ["case","thing"] (defScope s_is_opening):=⟨rfl,rfl,rfl,by decide +kernel,rfl,by decide +kernel,by decide +kernel⟩
abbrev s_openings:Stmt:=top 6
theorem sc_openings:FnScope ["case","most","begun","place","number"] ["case"] (defScope s_openings):=⟨rfl,rfl,rfl,by decide +kernel,rfl,by decide +kernel,by decide +kernel⟩
abbrev s_most_houses:Stmt:=top 7
theorem sc_most_houses:FnScope ["case","web","sites","folk","limit"] ["case"] (defScope s_most_houses):=⟨rfl,rfl,rfl,by decide +kernel,rfl,by decide +kernel,by decide +kernel⟩
abbrev s_law_pen:Stmt:=top 9
theorem sc_law_pen:FnScope ["_law_script","_law_k","_law_cell"] ["_law_script","_law_k"] (defScope s_law_pen):=⟨rfl,rfl,rfl,by decide +kernel,rfl,by decide +kernel,by decide +kernel⟩
abbrev s_law_draw:Stmt:=top 10
theorem sc_law_draw:FnScope ["_law_pen_here","_law_many","_law_found","_law_number"] ["_law_pen_here","_law_many"] (defScope s_law_draw):=⟨rfl,rfl,rfl,by decide +kernel,rfl,by decide +kernel,by decide +kernel⟩
abbrev s_law_names:Stmt:=top 11
theorem sc_law_names:FnScope ["_law_pen_here","_law_many","_law_letters","_law_head","_law_start","_law_step","_law_most","_law_found","_law_k","_law_tail","_law_own"] ["_law_pen_here","_law_many"] (defScope s_law_names):=⟨rfl,rfl,rfl,by decide +kernel,rfl,by decide +kernel,by decide +kernel⟩
abbrev s_law_great:Stmt:=top 12
theorem sc_law_great:FnScope ["_law_pen_here","_law_least","_law_size","_law_way"] ["_law_pen_here","_law_least","_law_size"] (defScope s_law_great):=⟨rfl,rfl,rfl,by decide +kernel,rfl,by decide +kernel,by decide +kernel⟩
abbrev s_law_map:Stmt:=top 13
theorem sc_law_map:FnScope ["_law_pen_here","_law_many","_law_names_here","_law_sort","_law_ways","_law_k","_law_ends","_law_rows","_law_one","_law_other"] ["_law_pen_here","_law_many"] (defScope s_law_map):=⟨rfl,rfl,rfl,by decide +kernel,rfl,by decide +kernel,by decide +kernel⟩
abbrev s_law_some:Stmt:=top 14
theorem sc_law_some:FnScope ["_law_pen_here","_law_things","_law_most","_law_left","_law_found","_law_k"] ["_law_pen_here","_law_things","_law_most"] (defScope s_law_some):=⟨rfl,rfl,rfl,by decide +kernel,rfl,by decide +kernel,by decide +kernel⟩
abbrev s_law_case:Stmt:=top 15
theorem sc_law_case:FnScope ["_law_pen_here","_law_map_here","_law_most","_law_sites","_law_folk","_law_limit"] ["_law_pen_here"] (defScope s_law_case):=⟨rfl,rfl,rfl,by decide +kernel,rfl,by decide +kernel,by decide +kernel⟩
abbrev s_law_all:Stmt:=top 16
theorem sc_law_all:FnScope ["_law_case_here","_law_found","_law_site","_law_price"] ["_law_case_here"] (defScope s_law_all):=⟨rfl,rfl,rfl,by decide +kernel,rfl,by decide +kernel,by decide +kernel⟩
abbrev s_law_odd:Stmt:=top 17
theorem sc_law_odd:FnScope ["_law_pen_here","_law_case_here","_law_some_here","_law_at","_law_places","_law_other","_law_sites","_law_found"] ["_law_pen_here","_law_case_here","_law_some_here"] (defScope s_law_odd):=⟨rfl,rfl,rfl,by decide +kernel,rfl,by decide +kernel,by decide +kernel⟩
abbrev s_law_is:Stmt:=top 18
theorem sc_law_is:FnScope ["_law_case_here","_law_thing","_law_every","_law_found"] ["_law_case_here","_law_thing","_law_every"] (defScope s_law_is):=⟨rfl,rfl,rfl,by decide +kernel,rfl,by decide +kernel,by decide +kernel⟩
abbrev s_law:Stmt:=top 19
theorem sc_law:FnScope ["_law_script","_law_k","_law_pen_here","_law_case_here","_law_every","_law_turn","_law_found","_law_start","_law_some_here","_law_thing"] ["_law_script"] (defScope s_law):=⟨rfl,rfl,rfl,by decide +kernel,rfl,by decide +kernel,by decide +kernel⟩
end K11
namespace K11
open PySem L2
section
variable {P:Program} {w:World} {K:PySem.W.Frag} {mg:Str->Option Value} {base:Heap}
theorem ok_pen {f:Addr} {fd:FuncData} (hlen:mg "len"=none) (F:Fun K "_law_pen" "_law_pen" s_law_pen f fd):FnOk P w K mg base CX0 1 f fd ["_law_script","_law_k"] (spPenL K):=by
 refine F.ok sc_law_pen (fun vs H Q E h=>?_) (fun cdv A outer s H vs Q E hr h=>?_)
 ·obtain ⟨a,ns,k,rfl,_⟩:=h
  rfl
 ·obtain ⟨a,ns,k,rfl,hS,hk,q⟩:=h
  refine ⟨_,pss_cons (ps_set (i:=2) sc_law_pen.nd rfl (Or.inl rfl) pe_int)
   (pss_cons (ps_if (pt_cmpR op_gt (pe_callB call_len_seq (by rfl) hlen PySem.boot_len (pa_cons (pv 0) pa_nil)) pe_int (nomark _))
    (pss_one (ps_set (i:=2) sc_law_pen.nd rfl (Or.inl rfl) (pe_ix ix_list (pv 0) (pe_op op_mod (pv 1) (pe_callB call_len_seq (by rfl) hlen PySem.boot_len (pa_cons (pv 0) pa_nil))) (fun _ _=>rfl)))) pss_nil)
   (pss_cons (ps_if (pw_and (pt_cmpR op_lt (pv 1) (pe_callB call_len_seq (by rfl) hlen PySem.boot_len (pa_cons (pv 0) pa_nil)) (nomark _)) (pw_and1 (pt_cmpR op_ge (pv 2) (pe_op op_pow pe_int pe_int) (nomark _)))).pt
    (pss_one (ps_ret (pe_lst (pa_cons (pv 2) (pa_cons pe_int (pa_cons pe_int pa_nil)))))) pss_nil)
   (pss_one (ps_ret (pe_lst (pa_cons pe_int (pa_cons (pe_op op_add (pe_op op_mod (pv 2) pe_int) (pe_op op_mul pe_int (pv 1))) (pa_cons pe_int pa_nil)))))))),?_⟩
  have hS1:=hS.sq
  refine ⟨_,rfl,a,_,rfl,.inl hS1,_,_,rfl,rfl,_,rfl,?_⟩
  refine ite2 (fun hpos=>?_) (fun _=>?_)
  ·rw [decide_eq_true_eq,List.length_map] at hpos
   have hl0:(0:Int) < ((ns.map V.int).length:Int):=by rw [List.length_map]; exact hpos
   obtain ⟨c,hc⟩:=at_ns (ns:=ns) (i:=k % ((ns.map V.int).length:Int)) (Int.emod_nonneg _ (by (first|lia|omega))) (by rw [List.length_map]; exact Int.emod_lt_of_pos _ hpos)
   refine ⟨_,rfl,_,rfl,_,rfl,a,_,rfl,.inl hS1,_,_,rfl,rfl,hl0,a,_,_,_,rfl,rfl,hS1,hc,?_⟩
   refine ⟨_,rfl,_,rfl,a,_,rfl,.inl hS1,_,_,rfl,rfl,_,rfl,?_⟩
   have tail:∀ p:Addr,H p=none->Q (.ref p) (upd H p (.lst (penL 0 (c % 999999937 + 70001 * k) 0))):=fun p hp=>q p _ _ hp
   refine ite2 (fun _=>?_) (fun _=>?_)
   ·refine ⟨_,rfl,_,_,rfl,rfl,⟨by decide,by decide,by decide⟩,_,_,rfl,rfl,_,rfl,?_⟩
    refine ite2 (fun _=>?_) (fun _=>?_)
    ·exact ⟨_,rfl,(by show 3<=sizeLine; decide),fun p hp=>q p c 0 hp⟩
    ·exact ⟨_,rfl,_,_,rfl,rfl,(by show (0:Int) < 999999937; decide),_,rfl,_,_,rfl,rfl,.inl ⟨by decide,by decide⟩,_,_,rfl,rfl,(by show 3<=sizeLine; decide),tail⟩
   ·refine ite2 (fun z=>by cases z) (fun _=>?_)
    exact ⟨_,rfl,_,_,rfl,rfl,(by show (0:Int) < 999999937; decide),_,rfl,_,_,rfl,rfl,.inl ⟨by decide,by decide⟩,_,_,rfl,rfl,(by show 3<=sizeLine; decide),tail⟩
  ·refine ⟨_,rfl,_,rfl,a,_,rfl,.inl hS1,_,_,rfl,rfl,_,rfl,?_⟩
   have tail:∀ p:Addr,H p=none->Q (.ref p) (upd H p (.lst (penL 0 (0 % 999999937 + 70001 * k) 0))):=fun p hp=>q p _ _ hp
   refine ite2 (fun _=>?_) (fun _=>?_)
   ·refine ⟨_,rfl,_,_,rfl,rfl,⟨by decide,by decide,by decide⟩,_,_,rfl,rfl,_,rfl,?_⟩
    refine ite2 (fun _=>?_) (fun _=>?_)
    ·exact ⟨_,rfl,(by show 3<=sizeLine; decide),fun p hp=>q p 0 0 hp⟩
    ·exact ⟨_,rfl,_,_,rfl,rfl,(by show (0:Int) < 999999937; decide),_,rfl,_,_,rfl,rfl,.inl ⟨by decide,by decide⟩,_,_,rfl,rfl,(by show 3<=sizeLine; decide),tail⟩
   ·refine ite2 (fun z=>by cases z) (fun _=>?_)
    exact ⟨_,rfl,_,_,rfl,rfl,(by show (0:Int) < 999999937; decide),_,rfl,_,_,rfl,rfl,.inl ⟨by decide,by decide⟩,_,_,rfl,rfl,(by show 3<=sizeLine; decide),tail⟩
theorem ok_draw {f:Addr} {fd:FuncData} (F:Fun K "_law_draw" "_law_draw" s_law_draw f fd):FnOk P w K mg base CX0 1 f fd ["_law_pen_here","_law_many"] spDraw:=by
 refine F.ok sc_law_draw (fun vs H Q E h=>?_) (fun cdv A outer s H vs Q E hr h=>?_)
 ·obtain ⟨p,m,rfl,_⟩:=h
  rfl
 ·obtain ⟨p,m,rfl,⟨a,b,c,hp⟩,hm,hm2,k⟩:=h
  refine ⟨_,pss_cons (ps_if (pt_cmpR op_gt (pe_ix ix_list (pv 0) pe_int (fun _ _=>rfl)) pe_int (nomark _))
    (pss_cons (ps_set (i:=2) sc_law_draw.nd rfl (Or.inl rfl) (pe_op op_mod (pe_ix ix_list (pv 0) pe_int (fun _ _=>rfl)) (pv 1)))
     (pss_cons (ps_asg (pe_op op_fdiv (pe_ix ix_list (pv 0) pe_int (fun _ _=>rfl)) (pv 1)) (pg_sub (pv 0) pe_int set_list)) (pss_one (ps_ret (pv 2))))) pss_nil)
   (pss_cons (ps_asg (pe_op op_add (pe_ix ix_list (pv 0) pe_int (fun _ _=>rfl)) pe_int) (pg_sub (pv 0) pe_int set_list))
   (pss_cons (ps_set (i:=3) sc_law_draw.nd rfl (Or.inl rfl) (pe_op op_mod (pe_op op_add (pe_op op_add (pe_op op_mul (pe_ix ix_list (pv 0) pe_int (fun _ _=>rfl)) pe_int) (pe_op op_mul (pe_ix ix_list (pv 0) pe_int (fun _ _=>rfl)) pe_int)) pe_int) pe_int))
   (pss_cons (ps_set (i:=3) sc_law_draw.nd rfl (Or.inl rfl) (pe_op op_mod (pe_op op_mul (pv 3) (pe_op op_add (pe_op op_mod (pv 3) pe_int) (pe_ix ix_list (pv 0) pe_int (fun _ _=>rfl)))) pe_int))
   (pss_one (ps_ret (pe_op op_mod (pe_op op_fdiv (pv 3) pe_int) (pv 1))))))),?_⟩
  have sq:∀ {H':Hp} {a b c:Int},H' p=some (.lst (penL a b c))->SqL K H' p (penL a b c):=fun h=>.inl (.inl h)
  refine ⟨_,rfl,p,_,_,_,rfl,rfl,sq hp,penL_0 _ _ _,_,_,rfl,rfl,_,rfl,?_⟩
  refine ite2 (fun _=>?_) (fun _=>?_)
  ·refine ⟨_,rfl,p,_,_,_,rfl,rfl,sq hp,penL_0 _ _ _,_,rfl,_,_,rfl,rfl,hm,?_⟩
   refine ⟨_,rfl,p,_,_,_,rfl,rfl,sq hp,penL_0 _ _ _,_,rfl,_,_,rfl,rfl,⟨hm,hm2⟩,_,rfl,p,_,_,0,rfl,rfl,hp,rfl,_,rfl,?_⟩
   exact k _ _ _ _ (Int.emod_nonneg _ (by (first|lia|omega))) (Int.emod_lt_of_pos _ hm)
  ·refine ⟨_,rfl,p,_,_,_,rfl,rfl,sq hp,penL_2 _ _ _,_,_,rfl,rfl,_,rfl,p,_,_,2,rfl,rfl,hp,rfl,?_⟩
   have hp1:(upd H p (.lst (penL a b (c + 1)))) p=some (.lst (penL a b (c + 1))):=upd_same
   refine ⟨_,rfl,p,_,_,_,rfl,rfl,sq hp1,penL_1 _ _ _,_,_,rfl,rfl,.inr ⟨by decide,by decide⟩,_,rfl,p,_,_,_,rfl,rfl,sq hp1,penL_2 _ _ _,_,_,rfl,rfl,.inr ⟨by decide,by decide⟩,_,_,rfl,rfl,_,_,rfl,rfl,_,_,rfl,rfl,(by show (0:Int) < 2147483647; decide),?_⟩
   have h0:0<=(b * 48271 + (c + 1) * 40692 + 11) % 2147483647:=Int.emod_nonneg _ (by decide)
   have h1:(b * 48271 + (c + 1) * 40692 + 11) % 2147483647 < 2147483647:=Int.emod_lt_of_pos _ (by decide)
   refine ⟨_,rfl,_,rfl,_,_,rfl,rfl,(by show (0:Int) < 65521; decide),_,rfl,p,_,_,_,rfl,rfl,sq hp1,penL_2 _ _ _,_,_,rfl,rfl,_,_,rfl,rfl,.inl ⟨Int.lt_of_lt_of_le (b:=0) (by decide) h0,Int.lt_trans h1 (by decide)⟩,_,_,rfl,rfl,(by show (0:Int) < 2147483629; decide),?_⟩
   refine ⟨_,rfl,_,_,rfl,rfl,⟨by decide,by decide⟩,_,rfl,_,_,rfl,rfl,hm,?_⟩
   exact k _ _ _ _ (Int.emod_nonneg _ (by (first|lia|omega))) (Int.emod_lt_of_pos _ hm)
structure DrawF (K:PySem.W.Frag) (mg:Str->Option Value) (fT:Addr) (fdT:FuncData):Prop where
 F:Fun K "_law_draw" "_law_draw" s_law_draw fT fdT
 mg:mg "_law_draw"=some (.ref fT)
 b:Binds K fdT ["_law_pen_here","_law_many"] []
theorem DrawF.ok {fT:Addr} {fdT:FuncData} (h:DrawF K mg fT fdT):FnOk P w K mg base CX0 1 fT fdT ["_law_pen_here","_law_many"] spDraw:=ok_draw h.F
end
end K11
namespace K11
open PySem L2
section
variable {P:Program} {w:World} {K:PySem.W.Frag} {mg:Str->Option Value} {base:Heap}
theorem ok_great {f fT:Addr} {fd fdT:FuncData} (DK:DrawF K mg fT fdT) (F:Fun K "_law_great" "_law_great" s_law_great f fd):FnOk P w K mg base CX0 2 f fd ["_law_pen_here","_law_least","_law_size"] spGreat:=by
 have GT:FnOk P w K mg base CX0 1 fT fdT ["_law_pen_here","_law_many"] spDraw:=DK.ok
 refine F.ok sc_law_great (fun vs H Q E h=>?_) (fun cdv A outer s H vs Q E hr h=>?_)
 ·obtain ⟨p,lo,sz,rfl,_⟩:=h
  rfl
 ·obtain ⟨p,lo,sz,rfl,hP,h0,h1,h2,h3,k⟩:=h
  have nd:=sc_law_great.nd
  refine ⟨_,pss_cons (ps_set (i:=3) nd rfl (Or.inl rfl) (pe_call GT hr (by rfl) DK.mg DK.F.kp DK.b .nil pass0 (pa_cons (pv 0) (pa_cons pe_int pa_nil))))
   (pss_cons (ps_if (pt_cmpR op_eq (pv 3) pe_int (nomark _)) (pss_one (ps_ret (pe_op op_add (pe_op op_pow pe_int pe_int) (pe_call GT hr (by rfl) DK.mg DK.F.kp DK.b .nil pass0 (pa_cons (pv 0) (pa_cons pe_int pa_nil)))))) pss_nil)
   (pss_cons (ps_if (pt_cmpR op_gt (pv 3) pe_int (nomark _)) (pss_one (ps_ret (pe_op op_add (pv 1) (pe_call GT hr (by rfl) DK.mg DK.F.kp DK.b .nil pass0 (pa_cons (pv 0) (pa_cons (pe_op op_mul pe_int (pv 2)) pa_nil)))))) pss_nil)
   (pss_one (ps_ret (pe_op op_add (pv 1) (pe_call GT hr (by rfl) DK.mg DK.F.kp DK.b .nil pass0 (pa_cons (pv 0) (pa_cons (pv 2) pa_nil)))))))),?_⟩
  have big:(1000000:Int) < 10 ^ 30:=by decide
  refine ⟨_,rfl,p,16,rfl,hP,by decide,by decide,fun d a b c da db=>?_⟩
  refine ⟨_,rfl,rfl,_,rfl,?_⟩
  refine ite2 (fun _=>?_) (fun _=>?_)
  ·refine ⟨_,_,rfl,rfl,⟨by decide,by decide,by decide⟩,_,rfl,p,9,rfl,PnAt.set a b c,by decide,by decide,fun e a1 b1 c1 ea eb=>⟨_,_,rfl,rfl,?_⟩⟩
   rw [upd_upd]
   have e1:(1000:Int)<=10 ^ (29:Int).toNat:=by decide
   have e2:(10:Int) ^ (29:Int).toNat + 9 < 10 ^ 30:=by decide
   exact k _ a1 b1 c1 (by (first|lia|omega)) (by (first|lia|omega))
  ·refine ⟨_,rfl,_,_,rfl,rfl,_,rfl,?_⟩
   refine ite2 (fun _=>?_) (fun _=>?_)
   ·refine ⟨_,rfl,_,rfl,_,rfl,_,_,rfl,rfl,.inl ⟨by decide,by decide⟩,p,_,rfl,PnAt.set a b c,by (first|lia|omega),by (first|lia|omega),fun e a1 b1 c1 ea eb=>⟨_,_,rfl,rfl,?_⟩⟩
    rw [upd_upd]
    exact k _ a1 b1 c1 (by (first|lia|omega)) (by (first|lia|omega))
   ·refine ⟨_,rfl,_,rfl,_,rfl,p,_,rfl,PnAt.set a b c,h2,by (first|lia|omega),fun e a1 b1 c1 ea eb=>⟨_,_,rfl,rfl,?_⟩⟩
    rw [upd_upd]
    exact k _ a1 b1 c1 (by (first|lia|omega)) (by (first|lia|omega))
structure GreatF (K:PySem.W.Frag) (mg:Str->Option Value) (fG:Addr) (fdG:FuncData):Prop where
 F:Fun K "_law_great" "_law_great" s_law_great fG fdG
 mg:mg "_law_great"=some (.ref fG)
 b:Binds K fdG ["_law_pen_here","_law_least","_law_size"] []
end
end K11
namespace K11
open PySem L2
section
variable {P:Program} {w:World} {K:PySem.W.Frag} {mg:Str->Option Value} {base:Heap}
structure TxtS (K:PySem.W.Frag) (mg:Str->Option Value):Prop where
 len:mg "len"=none
 min:mg "min"=none
 list:mg "list"=none
 range:mg "range"=none
theorem ok_some {f fT:Addr} {fd fdT:FuncData} (T:TxtS K mg) (DK:DrawF K mg fT fdT) (F:Fun K "_law_some" "_law_some" s_law_some f fd):FnOk P w K mg base CX0 2 f fd ["_law_pen_here","_law_things","_law_most"] (spSome K):=by
 have GT:FnOk P w K mg base CX0 1 fT fdT ["_law_pen_here","_law_many"] spDraw:=DK.ok
 refine F.ok sc_law_some (fun vs H Q E h=>?_) (fun cdv A outer s H vs Q E hr h=>?_)
 ·obtain ⟨p,t,ts,m,rfl,_⟩:=h
  rfl
 ·obtain ⟨p,t,ts,m,rfl,hP,hT,h1,h2,h3,h4,k⟩:=h
  have nd:=sc_law_some.nd
  have big:100000 < sizeLine:=by decide
  refine ⟨_,pss_cons (ps_set (i:=3) nd rfl (Or.inl rfl) (pe_callTy call_list_of (by rfl) T.list PyProof.Rows.boot_list (pa_cons (pv 1) pa_nil)))
   (pss_cons (ps_set (i:=4) nd rfl (Or.inl rfl) (pe_lst pa_nil))
   (pss_cons (ps_for PassesOwn.never rfl (pi_range1 rfl T.range (pa_cons (pe_op op_add pe_int (pe_call GT hr (by rfl) DK.mg DK.F.kp DK.b .nil pass0 (pa_cons (pv 0) (pa_cons (pe_callB (call_min2 rfl) (by rfl) T.min PyProof.Rows.boot_min (pa_cons (pv 2) (pa_cons (pe_callB (call_len_seqK K rfl) (by rfl) T.len PySem.boot_len (pa_cons (pv 3) pa_nil)) pa_nil))) pa_nil)))) pa_nil)) (pg_name (i:=5) nd rfl (Or.inl rfl))
    (pss_one (ps_expr (pe_bm PySem.F.plainAttrs_list PySem.F.slot_list_append PySem.F.type_list_append mt_append (pv 4)
     (pa_cons (pe_bm PySem.F.plainAttrs_list PySem.F.slot_list_pop PySem.F.type_list_pop mt_popAt (pv 3)
      (pa_cons (pe_call GT hr (by rfl) DK.mg DK.F.kp DK.b .nil pass0 (pa_cons (pv 0) (pa_cons (pe_callB (call_len_seqK K rfl) (by rfl) T.len PySem.boot_len (pa_cons (pv 3) pa_nil)) pa_nil))) pa_nil)) pa_nil)))))
   (pss_one (ps_ret (pv 4))))),?_⟩
  refine ⟨_,rfl,t,_,rfl,.inr hT,fun L hL=>?_⟩
  have pL:L ≠ p:=hP.ne hL
  have hP1:PnAt (upd H L (.lst (ts.map V.str))) p:=hP.other pL
  refine ⟨(by show 0<=sizeLine; (first|lia|omega)),fun D hD=>?_⟩
  have pD:D ≠ p:=hP1.ne hD
  have LD:D ≠ L:=by
   intro z
   subst z
   rw [upd_same] at hD
   cases hD
  have hD0:H D=none:=by
   rw [upd_ne LD] at hD
   exact hD
  have hP2:PnAt (upd (upd H L (.lst (ts.map V.str))) D (.lst [])) p:=hP1.other pD
  have hL2:(upd (upd H L (.lst (ts.map V.str))) D (.lst [])) L=some (.lst (ts.map V.str)):=by rw [upd_ne LD.symm,upd_same]
  have hm0:0 < (if ((ts.map V.str).length:Int) < m then ((ts.map V.str).length:Int) else m):=by
   rw [List.length_map]
   split <;> (first|lia|omega)
  have hm1:(if ((ts.map V.str).length:Int) < m then ((ts.map V.str).length:Int) else m)<=m:=by
   split <;> (first|lia|omega)
  have hm2:(if ((ts.map V.str).length:Int) < m then ((ts.map V.str).length:Int) else m)<=ts.length:=by
   rw [List.length_map]
   split <;> (first|lia|omega)
  refine ⟨_,rfl,_,rfl,_,rfl,L,_,rfl,.inl (SqL.of hL2),_,_,rfl,p,_,rfl,hP2,hm0,by (first|lia|omega),fun d a b c da db=>⟨_,_,rfl,rfl,_,rfl,by (first|lia|omega),by (first|lia|omega),?_⟩⟩
  refine for_rangeB (lo:=0) (fun j σ H'=>∃ (xs ys:List Str) (v5:Option V),σ=[some (.ref p),some (.ref t),some (.int m),some (.ref L),some (.ref D),v5]/\PnAt H' p/\H' L=some (.lst (ys.map V.str))/\H' D=some (.lst (xs.map V.str))/\(xs ++ ys).Perm ts/\xs.length=j/\Keep p H H')
   ⟨[],ts,_,rfl,PnAt.set a b c,?_,?_,List.Perm.refl _,rfl,?_⟩ ?_ ?_
  ·rw [upd_ne pL]; exact hL2
  ·rw [upd_ne pD,upd_same]; rfl
  ·intro b' o hb e
   rw [upd_ne hb,upd_ne (by intro z; subst z; rw [hD0] at e; cases e),upd_ne (by intro z; subst z; rw [hL] at e; cases e)]
   exact e
  ·rintro j σ H' hj ⟨xs,ys,v5,rfl,P1,l1,d1,pm,lx,kp⟩ rt bk
   have hlen:xs.length + ys.length=ts.length:=by rw [<-List.length_append]; exact pm.length_eq
   have hy0:0 < ((ys.map V.str).length:Int):=by
    rw [List.length_map]
    (first|lia|omega)
   refine ⟨_,rfl,.inl ⟨rfl,_,SqL.of d1⟩,_,rfl,.inl ⟨rfl,_,SqL.of l1⟩,_,rfl,_,rfl,L,_,rfl,.inl (SqL.of l1),p,_,rfl,P1,hy0,?_,fun e a1 b1 c1 ea eb=>?_⟩
   ·rw [List.length_map]
    (first|lia|omega)
   ·rw [List.length_map] at eb
    obtain ⟨n,rfl⟩:∃ n:Nat,e=(n:Int):=⟨e.toNat,by (first|lia|omega)⟩
    have hn:n < ys.length:=by (first|lia|omega)
    have hget:ys[n]? = some ys[n]:=List.getElem?_eq_getElem hn
    have l2:(upd H' p (.lst (penL a1 b1 c1))) L=some (.lst (ys.map V.str)):=by rw [upd_ne pL]; exact l1
    have d2:(upd H' p (.lst (penL a1 b1 c1))) D=some (.lst (xs.map V.str)):=by rw [upd_ne pD]; exact d1
    refine ⟨L,_,n,n,.str ys[n],rfl,rfl,l2,by (first|lia|omega),by (first|lia|omega),?_,?_,D,xs.map V.str,_,rfl,rfl,?_,?_,?_⟩
    ·rw [List.length_map]
     exact (ixN_seq (by show ixN ys.length (n:Int)=some n; unfold ixN; rw [if_pos (by (first|lia|omega)),if_pos (by (first|lia|omega))]; rfl)).1
    ·rw [List.getElem?_map,hget]; rfl
    ·rw [upd_ne LD]; exact d2
    ·rw [List.length_map]; (first|lia|omega)
    ·refine ⟨xs ++ [ys[n]],ys.eraseIdx n,_,rfl,?_,?_,?_,pop_perm pm hget,?_,?_⟩
     ·exact ((PnAt.set a1 b1 c1).other pL).other pD
     ·rw [upd_ne LD.symm,upd_same,map_erase]
     ·rw [upd_same,List.map_append]; rfl
     ·rw [List.length_append,lx]; rfl
     ·intro b' o hb e
      have hb1:=kp b' o hb e
      rw [upd_ne (by intro z; subst z; rw [hD0] at e; cases e),upd_ne (by intro z; subst z; rw [hL] at e; cases e),upd_ne hb]
      exact hb1
  ·rintro σ H' ⟨xs,ys,v5,rfl,P1,l1,d1,pm,lx,kp⟩
   refine ⟨_,rfl,?_⟩
   exact k H' D xs ys P1 kp hD0 d1 pm (by (first|lia|omega)) (by (first|lia|omega))
structure SomeF (K:PySem.W.Frag) (mg:Str->Option Value) (fS:Addr) (fdS:FuncData):Prop where
 F:Fun K "_law_some" "_law_some" s_law_some fS fdS
 mg:mg "_law_some"=some (.ref fS)
 b:Binds K fdS ["_law_pen_here","_law_things","_law_most"] []
end
end K11
namespace K11
open PySem L2
section
variable {P:Program} {w:World} {K:PySem.W.Frag} {mg:Str->Option Value} {base:Heap}
theorem names_loop (hrg:mg "range"=none) {fT:Addr} {fdT:FuncData} (DK:DrawF K mg fT fdT)
  {f:Addr} {cdv:Value} {A:Around} {outer:List Env} {s:Shared} {H:Hp} {E:XK} (hr:Room 1 (A.deeper (PyProof.Rows.envOfC "_law_names" (defScope s_law_names) s.heap.objs.size f cdv))) :
  ∃ t,PSs (cxOf CX0 P w K mg base ["_law_pen_here","_law_many","_law_letters","_law_head","_law_start","_law_step","_law_most","_law_found","_law_k","_law_tail","_law_own"] "_law_names" (defScope s_law_names) f cdv A outer s H E).nox
    ((defBody s_law_names).drop 6) t /\
   ∀ (W:Ends) (H6:Hp) (p D:Addr) (n:Nat) (hd:Str) (st sp mo:Int) (v8 v9 v10:Option V),PnAt H6 p->H6 D=some (.lst [])->D ≠ p->n<=52->Low hd->hd.length<=2->0<=st->st < 26->sp ∈ ([1,3,5,7,9,11,15,17]:List Int) ->
    0<=mo->mo < 4 - (if decide ((26:Int) < n)=true then 1 else 0) ->
    (∀ (H':Hp) (xs:List Str),PnAt H' p->(∀ b o,b ≠ p->b ≠ D->H6 b=some o->H' b=some o)->H' D=some (.lst (xs.map V.str))->xs.length=n->xs.Nodup->(∀ x ∈ xs,nameB x=true)->W.rt (.ref D) H') ->
    t W [some (.ref p),some (.int n),some (.str letters),some (.str hd),some (.int st),some (.int sp),some (.int mo),some (.ref D),v8,v9,v10] H6:=by
 have GT:FnOk P w K mg base CX0 1 fT fdT ["_law_pen_here","_law_many"] spDraw:=DK.ok
 have nd:=sc_law_names.nd
 have big:100000 < sizeLine:=by decide
 refine ⟨_,pss_cons (ps_for PassesOwn.never rfl (pi_range1 (by rfl) hrg (pa_cons (pv 1) pa_nil)) (pg_name (i:=8) nd rfl (Or.inl rfl))
  (pss_cons (ps_set (i:=9) nd rfl (Or.inl rfl) (pe_bm PySem.F.plainAttrs_str PySem.F.slot_str_join PySem.F.type_str_join mt_join pe_str (pa_cons (pe_comp (N:=["_law_j","_law_letters","_law_pen_here"]) (σ0:=fun σ=>[none,some 2,some 0].map fun j=>j.bind fun j=>(σ[j]?).join) rfl
      (CompOk.caught (by rfl) (by decide +kernel) rfl (by decide +kernel) (by intro y hy; simp only [List.mem_cons,List.not_mem_nil,or_false] at hy; rcases hy with rfl | rfl <;> rfl)
       (by intro y hy e; simp only [List.mem_cons,List.not_mem_nil,or_false] at hy; rcases hy with rfl | rfl | rfl | rfl | rfl <;> first | exact ⟨_,rfl⟩ | cases e))
      (fun σ _=>Carry.of [none,some 2,some 0] rfl (by
       intro i j x h1 h2
       match i,h1,h2 with
       | 0,_,h2=>cases h2
       | 1,h1,h2=>cases h1; cases h2; exact ⟨rfl,.inl rfl,.inl rfl⟩
       | 2,h1,h2=>cases h1; cases h2; exact ⟨rfl,.inl rfl,.inl rfl⟩
       | n + 3,h1,_=>cases h1)) (pi_range1 rfl hrg (pa_cons (pe_call GT hr (by rfl) DK.mg DK.F.kp DK.b .nil pass0 (pa_cons (pv 0) (pa_cons (pe_op op_add (pv 6) pe_int) pa_nil))) pa_nil))
      (fun s2 H C fp=>⟨pg_name (i:=0) (show (["_law_j","_law_letters","_law_pen_here"]:List Str).Nodup by decide +kernel) rfl (Or.inl rfl),pts_nil,
       pe_ix ix_str (pv 1) (pe_call GT hr (by rfl) DK.mg DK.F.kp DK.b .nil pass0 (pa_cons (pv 2) (pa_cons pe_int pa_nil))) (fun _ _=>rfl)⟩)) pa_nil)))
  (pss_cons (ps_set (i:=10) nd rfl (Or.inl rfl) (pe_ix ix_str (pv 2) (pe_op op_mod (pe_op op_add (pv 4) (pe_op op_mul (pv 5) (pv 8))) pe_int) (fun _ _=>rfl)))
  (pss_cons (ps_if (pt_cmpR op_gt (pv 1) pe_int (nomark _))
  (pss_one (ps_set (i:=10) nd rfl (Or.inl rfl) (pe_op op_add_str (pv 10) (pe_ix ix_str pe_str (pe_op op_fdiv (pv 8) pe_int) (fun _ _=>rfl)))))
  pss_nil)
  (pss_one (ps_expr (pe_bm PySem.F.plainAttrs_list PySem.F.slot_list_append PySem.F.type_list_append mt_append (pv 7) (pa_cons (pe_op op_add_str (pe_op op_add_str (pv 3) (pv 10)) (pv 9)) pa_nil))))))))
  (pss_one (ps_ret (pv 7))),?_⟩
 intro W H6 p D n hd st sp mo v8 v9 v10 hP hD nD hn lh lh2 s0 s1 hsp m0 m1 k
 have spb:0<=sp/\sp<=17:=by
  simp only [List.mem_cons,List.not_mem_nil,or_false] at hsp
  rcases hsp with rfl | rfl | rfl | rfl | rfl | rfl | rfl | rfl <;> (first|lia|omega)
 refine ⟨_,rfl,n,rfl,by (first|lia|omega),by (first|lia|omega),?_⟩
 refine for_rangeB (n:=n) (lo:=0) (fun j σ H'=>∃ (xs:List Str) (v8 v9 v10:Option V),σ=[some (.ref p),some (.int n),some (.str letters),some (.str hd),some (.int st),some (.int sp),some (.int mo),some (.ref D),v8,v9,v10]/\PnAt H' p/\(∀ b o,b ≠ p->b ≠ D->H6 b=some o->H' b=some o)/\H' D=some (.lst (xs.map V.str))/\xs.length=j/\(∀ x ∈ xs,nameB x=true)/\∀ (i:Nat) x,xs[i]? = some x->∃ tl,x.cps.toList=hd.cps.toList ++ (ownL n st sp i ++ tl))
  ⟨[],_,_,_,rfl,hP,fun _ _ _ _ e=>e,hD,rfl,(fun x hx=>nomatch hx),(fun i x e=>by simp at e)⟩ ?_ ?_
 ·rintro j σ H' hj ⟨xs,v8,v9,v10,rfl,P1,k1,d1,l1,nm,sh⟩ rt bk
  refine ⟨rfl,_,rfl,_,rfl,_,_,rfl,rfl,p,mo + 1,rfl,P1,by (first|lia|omega),by (first|lia|omega),fun d a b c da db=>⟨_,rfl,by (first|lia|omega),by (first|lia|omega),?_⟩⟩
  show ∀ D,(upd H' p (.lst (penL a b c))) D=none->_
  have dm:d<=mo:=by (first|lia|omega)
  refine read_draws (g:=gName 0) (H:=upd H' p (.lst (penL a b c))) (p:=p) d.toNat ?_ ?_ (by split at m1 <;> (first|lia|omega)) (PnAt.set a b c) (fun H1 D1 ss P2 k2 d2 l2 o2=>?_)
  ·exact fun _ _ _ _ _ _ h=>h
  ·intro v H' P' Q' h
   refine ⟨_,rfl,_,rfl,p,26,rfl,P',by decide,by decide,fun e a1 b1 c1 ea eb=>?_⟩
   exact ⟨_,_,_,rfl,rfl,by decide,letter_atI ea eb,h _ _ _ _ (letters_low _ (at_mem (letter_atI ea eb)))⟩
  obtain ⟨j1,j2,j3⟩:=join_low o2
  refine ⟨_,D1,ss,rfl,rfl,d2,by decide,by split at m1 <;> (first|lia|omega),?_⟩
  generalize htl:Txt.join (Str.ofString "") ss=tl at j1 j2
  have dD:H1 D=some (.lst (xs.map V.str)):=k2 D _ nD (by rw [upd_ne nD]; exact d1)
  have kp:∀ b o,b ≠ p->b ≠ D->H6 b=some o->H1 b=some o:=fun b o hb hb' e=>k2 b o hb (by rw [upd_ne hb]; exact k1 b o hb hb' e)
  have spj:0<=sp * j:=Int.mul_nonneg spb.1 (by (first|lia|omega))
  have r0:0<=(st + sp * (0 + (j:Int))) % 26:=Int.emod_nonneg _ (by decide)
  have r1:(st + sp * (0 + (j:Int))) % 26 < 26:=Int.emod_lt_of_pos _ (by decide)
  refine ⟨_,rfl,_,rfl,_,rfl,_,rfl,_,_,rfl,rfl,.inl ⟨by (first|lia|omega),by (first|lia|omega)⟩,_,_,rfl,rfl,_,_,rfl,rfl,(by show (0:Int) < 26; decide),_,_,_,rfl,rfl,by decide,letter_atI r0 r1,?_⟩
  have lc:=letters_low _ (at_mem (letter_atI r0 r1))
  rw [Int.zero_add] at lc
  rw [Int.zero_add]
  refine ⟨_,rfl,_,_,rfl,rfl,_,rfl,?_⟩
  have inv:∀ (own:Str) (v10:Option V),own.cps.toList=ownL n st sp j->Low own->1<=own.length->hd.length + own.length + tl.length<=6->∃ (xs':List Str) (v8 v9 v10':Option V),[some (.ref p),some (.int n),some (.str letters),some (.str hd),some (.int st),some (.int sp),some (.int mo),some (.ref D),some (.int (j:Int)),some (.str tl),v10]=[some (.ref p),some (.int n),some (.str letters),some (.str hd),some (.int st),some (.int sp),some (.int mo),some (.ref D),v8,v9,v10']/\PnAt (upd H1 D (.lst (xs.map V.str ++ [.str (hd ++ own ++ tl)]))) p/\(∀ b o,b ≠ p->b ≠ D->H6 b=some o->(upd H1 D (.lst (xs.map V.str ++ [.str (hd ++ own ++ tl)]))) b=some o)/\(upd H1 D (.lst (xs.map V.str ++ [.str (hd ++ own ++ tl)]))) D=some (.lst (xs'.map V.str))/\xs'.length=j + 1/\(∀ x ∈ xs',nameB x=true)/\∀ (i:Nat) x,xs'[i]? = some x->∃ tl,x.cps.toList=hd.cps.toList ++ (ownL n st sp i ++ tl):=by
   intro own v10 e1 lo l3 l6
   have ec:(hd ++ own ++ tl).cps.toList=hd.cps.toList ++ (own.cps.toList ++ tl.cps.toList):=by
    rw [Str.cps_append,Str.cps_append,Array.toList_append,Array.toList_append,List.append_assoc]
   have el:(hd ++ own ++ tl).length=hd.length + own.length + tl.length:=by
    show (hd ++ own ++ tl).cps.size=_
    rw [Str.cps_append,Str.cps_append,Array.size_append,Array.size_append]
    rfl
   refine ⟨xs ++ [hd ++ own ++ tl],_,_,_,rfl,P2.other nD,fun b o hb hb' e=>by rw [upd_ne hb']; exact kp b o hb hb' e,by rw [upd_same,List.map_append]; rfl,by rw [List.length_append,l1]; rfl,fun x hx=>?_,fun i x e=>?_⟩
   ·rcases List.mem_append.mp hx with hx | hx
    ·exact nm x hx
    ·rw [List.mem_singleton] at hx
     subst hx
     refine nameB_of (by (first|lia|omega)) (by (first|lia|omega)) fun c hc=>?_
     rw [ec,List.mem_append,List.mem_append] at hc
     rcases hc with hc | hc | hc
     ·exact lh c hc
     ·exact lo c hc
     ·exact j1 c hc
   ·by_cases hi:i < xs.length
    ·rw [List.getElem?_append_left hi] at e
     exact sh i x e
    ·have hi2:i=j:=by
      have:=(List.getElem?_eq_some_iff.mp e).1
      rw [List.length_append,List.length_singleton] at this
      (first|lia|omega)
     subst hi2
     rw [List.getElem?_append_right (by (first|lia|omega)),l1,Nat.sub_self,List.getElem?_cons_zero] at e
     rw [<-Option.some.inj e,ec,e1]
     exact ⟨_,rfl⟩
  refine ite2 (fun h26=>?_) (fun h26=>?_)
  ·have n26:(26:Int) < n:=by simpa using h26
   have q0:0<=((j:Int)) / 26:=Int.ediv_nonneg (by (first|lia|omega)) (by decide)
   have q1:((j:Int)) / 26 < 2:=by (first|lia|omega)
   have ab:∀ m:Fin 2,atI (Str.ofString "ab").cps.toList (m.val:Int)=some (97 + m.val):=by decide +kernel
   have ab2:atI (Str.ofString "ab").cps.toList ((j:Int) / 26)=some (97 + j / 26):=by
    have:=ab ⟨j / 26,by (first|lia|omega)⟩
    rw [show ((j:Int) / 26)=((j / 26:Nat):Int) by (first|lia|omega)]
    exact this
   rw [if_pos h26] at m1
   refine ⟨_,rfl,_,rfl,_,_,rfl,rfl,⟨by decide,by decide⟩,_,_,_,rfl,rfl,by decide,ab2,_,_,rfl,rfl,(by show 1 + 1<=sizeLine; (first|lia|omega)),?_⟩
   have iv:=inv ((⟨#[97 + ((st + sp * (j:Int)) % 26).toNat]⟩:Str) ++ ⟨#[97 + j / 26]⟩) (some (.str ((⟨#[97 + ((st + sp * (j:Int)) % 26).toNat]⟩:Str) ++ ⟨#[97 + j / 26]⟩))) (by unfold ownL; rw [if_pos (by (first|lia|omega))]; rfl) (low_app (fun c hc=>by
     have:c=97 + ((st + sp * (j:Int)) % 26).toNat:=by simpa using hc
     subst this
     exact lc) (by unfold lowc; simp; (first|lia|omega))) (by show 1<=2; decide) (by show hd.length + 2 + tl.length<=6; (first|lia|omega))
   refine ⟨_,rfl,.inl ⟨rfl,_,SqL.of dD⟩,_,rfl,_,rfl,_,_,rfl,rfl,(by show hd.length + 2<=sizeLine; (first|lia|omega)),_,rfl,_,_,rfl,rfl,?_,D,_,_,rfl,rfl,dD,(by rw [List.length_map]; (first|lia|omega)),iv⟩
   show (hd.cps ++ _).size + tl.length<=sizeLine
   rw [Array.size_append]
   show hd.length + 2 + tl.length<=sizeLine
   (first|lia|omega)
  ·have n26:¬ (26:Int) < n:=by simpa using h26
   rw [if_neg h26] at m1
   have iv:=inv ((⟨#[97 + ((st + sp * (j:Int)) % 26).toNat]⟩:Str)) (some (.str ((⟨#[97 + ((st + sp * (j:Int)) % 26).toNat]⟩:Str)))) (by unfold ownL; rw [if_neg (by (first|lia|omega))]) (fun c hc=>by
     have:c=97 + ((st + sp * (j:Int)) % 26).toNat:=by simpa using hc
     subst this
     exact lc) (by show 1<=1; decide) (by show hd.length + 1 + tl.length<=6; (first|lia|omega))
   refine ⟨_,rfl,.inl ⟨rfl,_,SqL.of dD⟩,_,rfl,_,rfl,_,_,rfl,rfl,(by show hd.length + 1<=sizeLine; (first|lia|omega)),_,rfl,_,_,rfl,rfl,?_,D,_,_,rfl,rfl,dD,(by rw [List.length_map]; (first|lia|omega)),iv⟩
   show (hd.cps ++ _).size + tl.length<=sizeLine
   rw [Array.size_append]
   show hd.length + 1 + tl.length<=sizeLine
   (first|lia|omega)
 ·rintro σ H' ⟨xs,v8,v9,v10,rfl,P1,k1,d1,l1,nm,sh⟩
  exact ⟨_,rfl,k H' xs P1 k1 d1 l1 (names_nodup sh fun i j hij hj tl tl'=>own_ne hn hsp hij (by (first|lia|omega)) tl tl') nm⟩
end
end K11
namespace K11
open PySem L2
section
variable {P:Program} {w:World} {K:PySem.W.Frag} {mg:Str->Option Value} {base:Heap}
theorem ok_namesL {f fT:Addr} {fd fdT:FuncData} (T:TxtS K mg) (hin:mg "int"=none) (DK:DrawF K mg fT fdT) (F:Fun K "_law_names" "_law_names" s_law_names f fd):FnOk P w K mg base CX0 2 f fd ["_law_pen_here","_law_many"] spNamesL:=by
 have GT:FnOk P w K mg base CX0 1 fT fdT ["_law_pen_here","_law_many"] spDraw:=DK.ok
 refine F.ok sc_law_names (fun vs H Q E h=>?_) (fun cdv A outer s H vs Q E hr h=>?_)
 ·obtain ⟨p,n,rfl,_⟩:=h
  rfl
 ·obtain ⟨p,n,rfl,hP,hn,k⟩:=h
  have nd:=sc_law_names.nd
  have big:100000 < sizeLine:=by decide
  obtain ⟨t7,T7,r7⟩:=names_loop T.range DK (outer:=outer) (H:=H) (E:=E) hr
  refine ⟨_,pss_cons (ps_set (i:=2) nd rfl (Or.inr rfl) pe_str)
   (pss_cons (ps_set (i:=3) nd rfl (Or.inl rfl) (pe_bm PySem.F.plainAttrs_str PySem.F.slot_str_join PySem.F.type_str_join mt_join pe_str (pa_cons
     (pe_comp (N:=["_law_k","_law_letters","_law_pen_here"]) (σ0:=fun σ=>[none,some 2,some 0].map fun j=>j.bind fun j=>(σ[j]?).join) rfl
      (CompOk.caught (by rfl) (by decide +kernel) rfl (by decide +kernel) (by intro y hy; simp only [List.mem_cons,List.not_mem_nil,or_false] at hy; rcases hy with rfl | rfl <;> rfl)
       (by intro y hy e; simp only [List.mem_cons,List.not_mem_nil,or_false] at hy; rcases hy with rfl | rfl | rfl | rfl | rfl <;> first | exact ⟨_,rfl⟩ | cases e))
      (fun σ _=>Carry.of [none,some 2,some 0] rfl (by
       intro i j x h1 h2
       match i,h1,h2 with
       | 0,_,h2=>cases h2
       | 1,h1,h2=>cases h1; cases h2; exact ⟨rfl,.inl rfl,.inl rfl⟩
       | 2,h1,h2=>cases h1; cases h2; exact ⟨rfl,.inl rfl,.inl rfl⟩
       | n + 3,h1,_=>cases h1)) (pi_range1 rfl T.range (pa_cons (pe_call GT hr (by rfl) DK.mg DK.F.kp DK.b .nil pass0 (pa_cons (pv 0) (pa_cons pe_int pa_nil))) pa_nil))
      (fun s2 H C fp=>⟨pg_name (i:=0) (show (["_law_k","_law_letters","_law_pen_here"]:List Str).Nodup by decide +kernel) rfl (Or.inl rfl),pts_nil,
       pe_ix ix_str (pv 1) (pe_call GT hr (by rfl) DK.mg DK.F.kp DK.b .nil pass0 (pa_cons (pv 2) (pa_cons pe_int pa_nil))) (fun _ _=>rfl)⟩)) pa_nil)))
   (pss_cons (ps_set (i:=4) nd rfl (Or.inl rfl) (pe_call GT hr (by rfl) DK.mg DK.F.kp DK.b .nil pass0 (pa_cons (pv 0) (pa_cons pe_int pa_nil))))
   (pss_cons (ps_set (i:=5) nd rfl (Or.inl rfl) (pe_ix (ix_listK K rfl) (pe_lst (pa_cons pe_int (pa_cons pe_int (pa_cons pe_int (pa_cons pe_int (pa_cons pe_int (pa_cons pe_int (pa_cons pe_int (pa_cons pe_int pa_nil)))))))))
     (pe_call GT hr (by rfl) DK.mg DK.F.kp DK.b .nil pass0 (pa_cons (pv 0) (pa_cons pe_int pa_nil))) (fun _ _=>rfl)))
   (pss_cons (ps_set (i:=6) nd rfl (Or.inl rfl) (pe_call GT hr (by rfl) DK.mg DK.F.kp DK.b .nil pass0 (pa_cons (pv 0) (pa_cons (pe_op op_sub pe_int (pe_callTy call_int1 (by rfl) hin PyProof.Rows.boot_int (pa_cons (pe_cmpR op_gt (pv 1) pe_int (nomark _)) pa_nil))) pa_nil))))
   (pss_cons (ps_set (i:=7) nd rfl (Or.inl rfl) (pe_lst pa_nil)) T7))))),?_⟩
  refine ⟨rfl,_,rfl,p,3,rfl,hP,by decide,by decide,fun d a b c da db=>⟨_,rfl,by (first|lia|omega),by (first|lia|omega),?_⟩⟩
  show ∀ D,(upd H p (.lst (penL a b c))) D=none->_
  refine read_draws (g:=gName 0) (H:=upd H p (.lst (penL a b c))) (p:=p) d.toNat ?_ ?_ (by (first|lia|omega)) (PnAt.set a b c) (fun H1 D1 ss P1 k1 d1 l1 o1=>?_)
  ·exact fun _ _ _ _ _ _ h=>h
  ·intro v H' P' Q' h
   refine ⟨_,rfl,_,rfl,p,26,rfl,P',by decide,by decide,fun e a1 b1 c1 ea eb=>?_⟩
   exact ⟨_,_,_,rfl,rfl,by decide,letter_atI ea eb,h _ _ _ _ (letters_low _ (at_mem (letter_atI ea eb)))⟩
  obtain ⟨j1,j2,j3⟩:=join_low o1
  refine ⟨_,D1,ss,rfl,rfl,d1,by decide,by (first|lia|omega),?_⟩
  generalize hhd:Txt.join (Str.ofString "") ss=hd at j1 j2
  refine ⟨_,rfl,p,26,rfl,P1,by decide,by decide,fun st a2 b2 c2 sa sb=>?_⟩
  refine ⟨(by show 8<=sizeLine; (first|lia|omega)),fun T8 hT8=>?_⟩
  have n8:T8 ≠ p:=(PnAt.set (H:=H1) (p:=p) a2 b2 c2).ne hT8
  refine ⟨_,rfl,p,8,rfl,(PnAt.set a2 b2 c2).other n8,by decide,by decide,fun e8 a3 b3 c3 e8a e8b=>?_⟩
  obtain ⟨sp,hsp⟩:=at_ns (ns:=[1,3,5,7,9,11,15,17]) e8a e8b
  refine ⟨T8,_,_,.int sp,rfl,rfl,SqL.of (by rw [upd_ne n8]; exact upd_same),hsp,?_⟩
  have spm:sp ∈ ([1,3,5,7,9,11,15,17]:List Int):=by
   have:=at_mem hsp
   simpa using this
  have P3:PnAt (upd (upd (upd H1 p (.lst (penL a2 b2 c2))) T8 (.lst [.int 1,.int 3,.int 5,.int 7,.int 9,.int 11,.int 15,.int 17])) p (.lst (penL a3 b3 c3))) p:=PnAt.set a3 b3 c3
  refine ⟨_,rfl,_,rfl,_,_,rfl,rfl,.inr ⟨_,rfl,_,_,rfl,rfl,p,_,rfl,P3,?_,?_,fun mo a4 b4 c4 m0 m1=>?_⟩⟩
  ·split <;> (first|lia|omega)
  ·split <;> (first|lia|omega)
  refine ⟨(by show 0<=sizeLine; (first|lia|omega)),fun D hD=>?_⟩
  have nD:D ≠ p:=(PnAt.set (H:=(upd (upd (upd H1 p (.lst (penL a2 b2 c2))) T8 (.lst [.int 1,.int 3,.int 5,.int 7,.int 9,.int 11,.int 15,.int 17])) p (.lst (penL a3 b3 c3)))) (p:=p) a4 b4 c4).ne hD
  refine r7 _ _ p D n hd st sp mo _ _ _ ((PnAt.set a4 b4 c4).other nD) upd_same nD hn j1 (by (first|lia|omega)) sa sb spm m0 m1 fun H' xs P5 k5 d5 l5 n5 m5=>?_
  have fr:∀ b o,b ≠ p->H b=some o->H' b=some o:=fun b o hb e=>by
   have e1:=k1 b o hb (by rw [upd_ne hb]; exact e)
   have nb8:b ≠ T8:=by intro z; subst z; rw [upd_ne hb,e1] at hT8; cases hT8
   have e2:(upd (upd (upd (upd H1 p (.lst (penL a2 b2 c2))) T8 (.lst [.int 1,.int 3,.int 5,.int 7,.int 9,.int 11,.int 15,.int 17])) p (.lst (penL a3 b3 c3))) p (.lst (penL a4 b4 c4))) b=some o:=by
    rw [upd_ne hb,upd_ne hb,upd_ne nb8,upd_ne hb]; exact e1
   have nbD:b ≠ D:=by intro z; subst z; rw [e2] at hD; cases hD
   exact k5 b o hb nbD (by rw [upd_ne nbD]; exact e2)
  have fD:H D=none:=by
   cases z:H D with
   | none=>rfl
   | some o=>
    exfalso
    have e1:=k1 D o nD (by rw [upd_ne nD]; exact z)
    have nb8:D ≠ T8:=by intro y; rw [<-y,upd_ne nD,e1] at hT8; cases hT8
    rw [upd_ne nD,upd_ne nD,upd_ne nb8,upd_ne nD,e1] at hD
    cases hD
  exact k H' D xs P5 fr fD d5 l5 n5 m5
structure NamesF (K:PySem.W.Frag) (mg:Str->Option Value) (fS:Addr) (fdS:FuncData):Prop where
 F:Fun K "_law_names" "_law_names" s_law_names fS fdS
 mg:mg "_law_names"=some (.ref fS)
 b:Binds K fdS ["_law_pen_here","_law_many"] []
end
end K11
namespace K11
open PySem L2
section
variable {P:Program} {w:World} {K:PySem.W.Frag} {mg:Str->Option Value} {base:Heap}
theorem ok_mapW (h_int:mg "int"=none) (h_list:mg "list"=none) (h_range:mg "range"=none) (h_sorted:mg "sorted"=none) (h_tuple:mg "tuple"=none) {fN fT fG:Addr} {fdN fdT fdG:FuncData} (XN:NamesF K mg fN fdN) (GN:FnOk P w K mg base CX0 2 fN fdN ["_law_pen_here","_law_many"] spNamesL) (DK:DrawF K mg fT fdT) (XG:GreatF K mg fG fdG) (GG:FnOk P w K mg base CX0 2 fG fdG ["_law_pen_here","_law_least","_law_size"] spGreat) {f:Addr} {fd:FuncData} (F:Fun K "_law_map" "_law_map" s_law_map f fd):FnOk P w K mg base CX0 3 f fd ["_law_pen_here","_law_many"] spMapW:=by
 have GT:FnOk P w K mg base CX0 1 fT fdT ["_law_pen_here","_law_many"] spDraw:=DK.ok
 refine F.ok sc_law_map (fun vs H Q E h=>?_) (fun cdv A outer s H vs Q E hr h=>?_)
 ·obtain ⟨p,n,rfl,_⟩:=h
  rfl
 ·obtain ⟨p,n,rfl,hP,n1,n30,k⟩:=h
  have nd:=sc_law_map.nd
  have hu:=hu_of hr
  have hu64:=hr.units
  have big:100000 < sizeLine:=by decide
  refine ⟨_,(pss_cons (ps_set (i:=2) nd rfl (Or.inl rfl) (pe_call GN (hr.mono (by decide)) (by rfl) XN.mg XN.F.kp XN.b .nil pass0 (pa_cons (pv 0) (pa_cons (pv 1) pa_nil))))
  (pss_cons (ps_set (i:=3) nd rfl (Or.inl rfl) (pe_call GT (hr.mono (by decide)) (by rfl) DK.mg DK.F.kp DK.b .nil pass0 (pa_cons (pv 0) (pa_cons pe_int pa_nil))))
  (pss_cons (ps_set (i:=4) nd rfl (Or.inl rfl) pe_dnewT)
  (pss_cons (ps_for PassesOwn.never rfl (pi_range2 (by rfl) h_range (pa_cons pe_int (pa_cons (pv 1) pa_nil))) (pg_name (i:=5) nd rfl (Or.inl rfl))
  (pss_one (ps_dput hu (pv 4) (pe_tup (pa_cons (pe_ix (ix_listK K rfl) (pe_lst (pa_cons (pe_op op_sub (pv 5) pe_int) (pa_cons (pe_call GT (hr.mono (by decide)) (by rfl) DK.mg DK.F.kp DK.b .nil pass0 (pa_cons (pv 0) (pa_cons (pv 5) pa_nil))) pa_nil))) (pe_callTy call_int1 (by rfl) h_int PyProof.Rows.boot_int (pa_cons (pe_cmpR op_gt (pv 3) pe_int (nomark _)) pa_nil)) (fun _ _=>rfl)) (pa_cons (pv 5) pa_nil))) (pe_call GG (hr.mono (by decide)) (by rfl) XG.mg XG.F.kp XG.b .nil pass0 (pa_cons (pv 0) (pa_cons pe_int (pa_cons pe_int pa_nil)))) rfl)))
  (pss_cons (ps_for PassesOwn.never rfl (pi_range1 (by rfl) h_range (pa_cons (pe_op op_mul pe_int (pe_callTy call_int1 (by rfl) h_int PyProof.Rows.boot_int (pa_cons (pe_cmpR op_eq (pv 3) pe_int (nomark _)) pa_nil))) pa_nil)) (pg_name (i:=5) nd rfl (Or.inl rfl))
  (pss_cons (ps_set (i:=6) nd rfl (Or.inl rfl) (pe_callB (call_sorted_intsK K rfl) (by rfl) h_sorted PyProof.Rows.boot_sorted (pa_cons (pe_lst (pa_cons (pe_call GT (hr.mono (by decide)) (by rfl) DK.mg DK.F.kp DK.b .nil pass0 (pa_cons (pv 0) (pa_cons (pv 1) pa_nil))) (pa_cons (pe_call GT (hr.mono (by decide)) (by rfl) DK.mg DK.F.kp DK.b .nil pass0 (pa_cons (pv 0) (pa_cons (pv 1) pa_nil))) pa_nil))) pa_nil)))
  (pss_one (ps_if (pt_cmpR op_lt (pe_ix (ix_listK K rfl) (pv 6) pe_int (fun _ _=>rfl)) (pe_ix (ix_listK K rfl) (pv 6) pe_int (fun _ _=>rfl)) (nomark _))
  (pss_one (ps_dput hu (pv 4) (pe_tup (pa_cons (pe_ix (ix_listK K rfl) (pv 6) pe_int (fun _ _=>rfl)) (pa_cons (pe_ix (ix_listK K rfl) (pv 6) pe_int (fun _ _=>rfl)) pa_nil))) (pe_call GG (hr.mono (by decide)) (by rfl) XG.mg XG.F.kp XG.b .nil pass0 (pa_cons (pv 0) (pa_cons pe_int (pa_cons pe_int pa_nil)))) rfl))
  pss_nil))))
  (pss_cons (ps_set (i:=7) nd rfl (Or.inl rfl) (pe_lst pa_nil))
  (pss_cons (ps_for PassesOwn.never rfl (pi_listK K rfl (pe_callTy (call_list_dT rfl) (by rfl) h_list PyProof.Rows.boot_list (pa_cons (pv 4) pa_nil))) (pg_tupK K rfl rfl (pgs_cons (pg_name (i:=8) nd rfl (Or.inl rfl)) (pgs_cons (pg_name (i:=9) nd rfl (Or.inl rfl)) pgs_nil)))
  (pss_one (ps_expr (pe_bm PySem.F.plainAttrs_list PySem.F.slot_list_append PySem.F.type_list_append mt_append (pv 7) (pa_cons (pe_op (op_catTK K rfl) (pe_callTy (call_tuple_ofK K rfl) (by rfl) h_tuple PyProof.Rows.boot_tuple (pa_cons (pe_callB (call_sorted_strsK K rfl) (by rfl) h_sorted PyProof.Rows.boot_sorted (pa_cons (pe_lst (pa_cons (pe_ix (ix_listK K rfl) (pv 2) (pv 8) (fun _ _=>rfl)) (pa_cons (pe_ix (ix_listK K rfl) (pv 2) (pv 9) (fun _ _=>rfl)) pa_nil))) pa_nil)) pa_nil)) (pe_tup (pa_cons (pe_dget hu (pv 4) (pe_tup (pa_cons (pv 8) (pa_cons (pv 9) pa_nil))) (fun _ _=>rfl)) pa_nil))) pa_nil)))))
  (pss_one (ps_ret (pe_tup (pa_cons (pe_callTy (call_tuple_ofK K rfl) (by rfl) h_tuple PyProof.Rows.boot_tuple (pa_cons (pe_callB (call_sorted_strsK K rfl) (by rfl) h_sorted PyProof.Rows.boot_sorted (pa_cons (pv 2) pa_nil)) pa_nil)) (pa_cons (pe_callTy (call_tuple_ofK K rfl) (by rfl) h_tuple PyProof.Rows.boot_tuple (pa_cons (pe_callB (call_sorted_waysPK K rfl) (by rfl) h_sorted PyProof.Rows.boot_sorted (pa_cons (pv 7) pa_nil)) pa_nil)) pa_nil)))))))))))),?_⟩
  refine ⟨_,rfl,_,rfl,p,n,rfl,hP,by (first|lia|omega),fun H1 N xs P1 k1 fN hN xl xnd xnm=>?_⟩
  refine ⟨_,rfl,p,3,rfl,P1,by decide,by decide,fun so a1 b1 c1 so0 so1=>?_⟩
  have nN:N ≠ p:=hP.ne fN
  have hN2:(upd H1 p (.lst (penL a1 b1 c1))) N=some (.lst (xs.map V.str)):=by rw [upd_ne nN]; exact hN
  intro W0 hW0
  have nW:W0 ≠ p:=(PnAt.set (H:=H1) (p:=p) a1 b1 c1).ne hW0
  have wN:W0 ≠ N:=by intro z; subst z; rw [hN2] at hW0; cases hW0
  have fr0:∀ b o,b ≠ p->H b=some o->(upd (upd H1 p (.lst (penL a1 b1 c1))) W0 (.dT [])) b=some o:=fun b o hb e=>by
   have e1:=k1 b o hb e
   rw [upd_ne (by intro z; subst z; rw [upd_ne hb,e1] at hW0; cases hW0),upd_ne hb]
   exact e1
  have fW:H W0=none:=by
   cases z:H W0 with
   | none=>rfl
   | some o=>have:=k1 W0 o nW z; rw [upd_ne nW,this] at hW0; cases hW0
  have mi0:MI H (upd (upd H1 p (.lst (penL a1 b1 c1))) W0 (.dT [])) p N W0 xs []:=⟨(PnAt.set a1 b1 c1).other nW,by rw [upd_ne wN.symm]; exact hN2,upd_same,fr0,nN,nW,wN,fW⟩
  clear fr0 hN2 hW0 hN P1
  generalize upd (upd H1 p (.lst (penL a1 b1 c1))) W0 (.dT [])=H2 at mi0
  refine ⟨_,rfl,1,n,rfl,⟨by (first|lia|omega),by (first|lia|omega),by (first|lia|omega),by (first|lia|omega)⟩,?_⟩
  refine for_rangeN (lo:=1) (fun j σ H'=>∃ (kvs:List (List Key × V)) (v5:Option V),σ=[some (.ref p),some (.int n),some (.ref N),some (.int so),some (.ref W0),v5,none,none,none,none]/\MI H H' p N W0 xs kvs/\WaysN n kvs/\kvs.length<=j/\(kvs.map (·.1)).Nodup/\JoinN (1 + (j:Int)) kvs)
   ⟨[],_,rfl,mi0,(fun q hq=>nomatch hq),Nat.zero_le _,.nil,fun k h1 h2=>by (first|lia|omega)⟩ ?_ ?_
  ·rintro j σ H' hj ⟨kvs,v5,rfl,mi,wn,wl,kn,jn⟩ rt bk NN hN
   have hjn:(1:Int) + j < n:=by (first|lia|omega)
   refine ⟨_,rfl,p,1,3,rfl,mi.pn,by decide,by decide,by decide,by decide,fun l a b c l1 l2=>?_⟩
   have m1:=mi.pen a b c
   refine ⟨_,rfl,_,rfl,_,_,rfl,rfl,_,rfl,_,rfl,p,1 + (j:Int),rfl,m1.pn,by (first|lia|omega),by (first|lia|omega),fun d a2 b2 c2 d0 d1=>?_⟩
   have m2:=m1.pen a2 b2 c2
   refine ⟨(by show 2<=sizeLine; (first|lia|omega)),fun L hL=>?_⟩
   have m3:=m2.add hL (.lst [.int (1 + (j:Int) - 1),.int d])
   refine ⟨_,rfl,_,_,rfl,rfl,.inr ⟨_,rfl,?_⟩⟩
   obtain ⟨i,hi,i0,i1⟩:∃ i:Int,atI [V.int (1 + (j:Int) - 1),V.int d] (if decide ((0:Int) < so)=true then 1 else 0)=some (.int i)/\0<=i/\i < 1 + (j:Int):=by
    by_cases z:(0:Int) < so
    ·rw [decide_eq_true z,if_pos rfl]
     exact ⟨d,rfl,d0,d1⟩
    ·rw [decide_eq_false z,if_neg (by decide)]
     exact ⟨1 + (j:Int) - 1,rfl,by (first|lia|omega),by (first|lia|omega)⟩
   refine ⟨L,_,_,_,rfl,rfl,SqL.of upd_same,hi,_,rfl,(by show 2<=sizeLine; (first|lia|omega)),fun t ht=>?_⟩
   have m4:=m3.add ht (.tup [.int i,.int (1 + (j:Int))])
   refine ⟨W0,_,rfl,DPut.t (k:=[Sum.inl i,Sum.inl (1 + (j:Int))]) m4.hw upd_same (by (first|lia|omega)),?_⟩
   refine hN _ _ ⟨_,_,rfl,m4.put _,wn.put i0 i1 hjn l1 l2,?_,putK_keys kn,?_⟩
   ·have:=putK_len kvs [Sum.inl i,Sum.inl (1 + (j:Int))] (.int l)
    (first|lia|omega)
   ·have:=jn.more (.int l) i0 i1
    rw [show (1:Int) + ((j + 1:Nat):Int)=1 + (j:Int) + 1 by (first|lia|omega)]
    exact this
  ·rintro σ H3 ⟨kvs3,v5,rfl,mi3,wn3,wl3,kn3,jn3⟩
   have jn3':JoinN n kvs3:=fun k h1 h2=>jn3 k h1 (by (first|lia|omega))
   refine ⟨_,rfl,rfl,.inr ⟨_,rfl,_,_,rfl,rfl,.inl ⟨by decide,by decide⟩,_,rfl,?_,?_,?_⟩⟩
   ·split <;> decide
   ·split <;> decide
   have t5:((5:Int) * (if decide (V.int so=V.int 2)=true then 1 else 0)).toNat<=5:=by split <;> decide
   generalize ((5:Int) * (if decide (V.int so=V.int 2)=true then 1 else 0)).toNat=m5 at t5
   refine for_rangeN (lo:=0) (fun j σ H'=>∃ (kvs:List (List Key × V)) (v5 v6:Option V),σ=[some (.ref p),some (.int n),some (.ref N),some (.int so),some (.ref W0),v5,v6,none,none,none]/\MI H H' p N W0 xs kvs/\WaysN n kvs/\kvs.length<=30 + j/\(kvs.map (·.1)).Nodup/\JoinN n kvs)
    ⟨kvs3,_,_,rfl,mi3,wn3,by (first|lia|omega),kn3,jn3'⟩ ?_ ?_
   ·rintro j σ H' hj ⟨kvs,v5,v6,rfl,mi,wn,wl,kn,jn⟩ rt bk NN hN
    refine ⟨_,rfl,_,rfl,p,n,rfl,mi.pn,by (first|lia|omega),by (first|lia|omega),fun d1 a b c d10 d11=>?_⟩
    have m1:=mi.pen a b c
    refine ⟨_,rfl,_,rfl,p,n,rfl,m1.pn,by (first|lia|omega),by (first|lia|omega),fun d2 a2 b2 c2 d20 d21=>?_⟩
    have m2:=m1.pen a2 b2 c2
    refine ⟨(by show 2<=sizeLine; (first|lia|omega)),fun L hL=>?_⟩
    have m3:=m2.add hL (.lst [.int d1,.int d2])
    refine ⟨L,[d1,d2],rfl,SqL.of upd_same,(by show 2 < 64; decide),fun e ns' he pm _=>?_⟩
    have m4:=m3.add he (.lst (ns'.map V.int))
    obtain ⟨x,y,rfl⟩:∃ x y,ns'=[x,y]:=by
     have:=pm.length_eq
     match ns',this with
     | [x,y],_=>exact ⟨x,y,rfl⟩
    have hx:x=d1\/x=d2:=by simpa using pm.mem_iff.mp (show x ∈ [x,y] by simp)
    have hy:y=d1\/y=d2:=by simpa using pm.mem_iff.mp (show y ∈ [x,y] by simp)
    have x0:0<=x/\x < n:=by rcases hx with rfl | rfl <;> (first|lia|omega)
    have y0:0<=y/\y < n:=by rcases hy with rfl | rfl <;> (first|lia|omega)
    refine ⟨_,rfl,e,_,_,_,rfl,rfl,SqL.of upd_same,rfl,_,rfl,e,_,_,_,rfl,rfl,SqL.of upd_same,rfl,_,_,rfl,rfl,_,rfl,?_⟩
    refine ite2 (fun lt=>?_) (fun _=>hN _ _ ⟨kvs,_,_,rfl,m4,wn,by (first|lia|omega),kn,jn⟩)
    have lt':x < y:=by simpa using lt
    refine ⟨_,rfl,p,1,3,rfl,m4.pn,by decide,by decide,by decide,by decide,fun l a b c l1 l2=>?_⟩
    have m5:=m4.pen a b c
    have ne:e ≠ p:=m3.pn.ne he
    have hE:SqL K (upd (upd (upd (upd (upd H' p (.lst (penL a b c))) p (.lst (penL a2 b2 c2))) L (.lst [.int d1,.int d2])) e (.lst ([x,y].map V.int))) p (.lst (penL a b c))) e ([x,y].map V.int):=SqL.of (by rw [upd_ne ne]; exact upd_same)
    refine ⟨_,rfl,_,rfl,e,_,_,_,rfl,rfl,SqL.of (by rw [upd_ne ne]; exact upd_same),rfl,_,rfl,e,_,_,_,rfl,rfl,SqL.of (by rw [upd_ne ne]; exact upd_same),rfl,(by show 2<=sizeLine; (first|lia|omega)),fun t ht=>?_⟩
    have m6:=m5.add ht (.tup [.int x,.int y])
    refine ⟨W0,_,rfl,DPut.t (k:=[Sum.inl x,Sum.inl y]) m6.hw upd_same (by (first|lia|omega)),?_⟩
    refine hN _ _ ⟨_,_,_,rfl,m6.put _,wn.put x0.1 lt' y0.2 l1 l2,?_,putK_keys kn,jn.put _ _⟩
    have:=putK_len kvs [Sum.inl x,Sum.inl y] (.int l)
    (first|lia|omega)
   ·rintro σ H4 ⟨kvs,v5,v6,rfl,mi,wn,wl,kn,jn⟩
    refine ⟨(by show 0<=sizeLine; (first|lia|omega)),fun R hR=>?_⟩
    have m1:=mi.add hR (.lst [])
    refine ⟨_,rfl,W0,kvs,rfl,m1.hw,fun l ts hl tl tt=>?_⟩
    have m2:=m1.add hl (.lst (ts.map V.ref))
    have nRl:l ≠ R:=by intro z; subst z; rw [upd_same] at hl; cases hl
    have nRW:R ≠ W0:=by intro z; subst z; rw [mi.hw] at hR; cases hR
    have nRN:R ≠ N:=by intro z; subst z; rw [mi.hn] at hR; cases hR
    have nRp:R ≠ p:=mi.pn.ne hR
    have fR:H R=none:=by
     cases z:H R with
     | none=>rfl
     | some o=>have:=mi.kp R o nRp z; rw [hR] at this; cases this
    refine ⟨l,rfl,⟨_,SqL.of upd_same⟩,?_⟩
    refine for_listN (xs:=ts.map V.ref) (fun i σ H'=>∃ (vs:List V) (ws:List Way) (v8 v9:Option V),σ=[some (.ref p),some (.int n),some (.ref N),some (.int so),some (.ref W0),v5,v6,some (.ref R),v8,v9]/\MI H H' p N W0 xs kvs/\H' l=some (.lst (ts.map V.ref))/\H' R=some (.lst vs)/\Dats H' vs (ws.map wayD)/\ws=((kvs.take i).map (wayOf xs)).map norm/\vs.length=i/\(∀ u ∈ ws,nameB u.1=true/\nameB u.2.1=true/\1<=u.2.2/\u.2.2 < 10 ^ 30)/\∀ (i:Nat) t q,ts[i]? = some t->kvs[i]? = some q->H' t=some (.tup (q.1.map kV)))
     ⟨[],[],_,_,rfl,m2,upd_same,by rw [upd_ne nRl.symm,upd_same],.nil,rfl,rfl,fun u hu=>(nomatch hu),fun i t q e1 e2=>by
      have z:=tt i t q e1 e2
      rw [upd_ne (ne_of_none z hl)]; exact z⟩ (fun i σ H' _ ⟨_,_,_,_,_,_,h,_⟩=>SqL.of h) ?_ ?_
    ·rintro i v σ H' hv ⟨vs,ws,v8,v9,rfl,mi,hl',hR',hd,wsl,vsl,good,tt'⟩ rt bk NN hN
     obtain ⟨t,et,rfl⟩:∃ t,ts[i]? = some t/\v=.ref t:=by
      rw [List.getElem?_map] at hv
      cases ex:ts[i]? with
      | none=>rw [ex] at hv; cases hv
      | some x=>rw [ex] at hv; exact ⟨x,rfl,(Option.some.inj hv).symm⟩
     have hi:i < ts.length:=(List.getElem?_eq_some_iff.mp et).1
     have eq:kvs[i]? = some kvs[i]:=List.getElem?_eq_getElem (by (first|lia|omega))
     obtain ⟨a,b,len,ek,a0,ab,bn,l1,l2⟩:=wn _ (List.mem_of_getElem? eq)
     have ht:=tt' i t _ et eq
     rw [ek] at ht
     refine ⟨t,[.int a,.int b],rfl,SqT.of ht,rfl,_,_,rfl,_,_,rfl,rfl,?_⟩
     obtain ⟨x,ax,mx⟩:=at_str (xs:=xs) a0 (by (first|lia|omega))
     obtain ⟨y,ay,my⟩:=at_str (xs:=xs) (i:=b) (by (first|lia|omega)) (by (first|lia|omega))
     refine ⟨_,rfl,.inl ⟨rfl,_,SqL.of hR'⟩,_,rfl,_,rfl,N,_,_,_,rfl,rfl,SqL.of mi.hn,ax,_,rfl,_,rfl,N,_,_,_,rfl,rfl,SqL.of mi.hn,ay,(by show 2<=sizeLine; (first|lia|omega)),fun L hL=>?_⟩
     have m1:=mi.add hL (.lst [.str x,.str y])
     refine ⟨L,[x,y],rfl,SqL.of upd_same,(by show 2 < 64; decide),fun L2 ss hL2 pm srt=>?_⟩
     have m2:=m1.add hL2 (.lst (ss.map V.str))
     obtain ⟨x',y',rfl⟩:∃ x y,ss=[x,y]:=by
      have:=pm.length_eq
      match ss,this with
      | [x,y],_=>exact ⟨x,y,rfl⟩
     refine ⟨L2,_,rfl,.inl ⟨SqL.of upd_same,fun T hT=>?_⟩⟩
     have m3:=m2.add hT (.tup ([x',y'].map V.str))
     refine ⟨_,rfl,_,rfl,_,rfl,(by show 2<=sizeLine; (first|lia|omega)),fun T2 hT2=>?_⟩
     have m4:=m3.add hT2 (.tup [.int a,.int b])
     obtain ⟨v',ev,mv⟩:=valV_mem (kvs:=kvs) (k:=[Sum.inl a,Sum.inl b]) (v:=.int len) (by rw [<-ek]; exact List.mem_of_getElem? eq)
     obtain ⟨a',b',len',ek',_,_,_,l1',l2'⟩:=wn _ mv
     cases ek'
     have el:len'=len:=by
      have z:=keys_one kn mv (by rw [<-ek]; exact List.mem_of_getElem? eq)
      cases z
      rfl
     obtain ⟨mn,mx2⟩:=two_sorted pm srt
     refine ⟨W0,.int len',rfl,ev ▸ DGet.t (k:=[Sum.inl a,Sum.inl b]) m4.hw upd_same,(by show 1<=sizeLine; (first|lia|omega)),fun T3 hT3=>?_⟩
     have m5:=m4.add hT3 (.tup [.int len'])
     have eT:(upd (upd (upd (upd (upd H' L (.lst [.str x,.str y])) L2 (.lst ([x',y'].map V.str))) T (.tup ([x',y'].map V.str))) T2 (.tup [.int a,.int b])) T3 (.tup [.int len'])) T=some (.tup ([x',y'].map V.str)):=by
      rw [upd_ne (by intro z; subst z; rw [upd_ne (by intro z; subst z; rw [upd_same] at hT2; cases hT2),upd_same] at hT3; cases hT3),upd_ne (by intro z; subst z; rw [upd_same] at hT2; cases hT2),upd_same]
     refine ⟨T,T3,_,_,rfl,rfl,SqT.of eT,SqT.of upd_same,(by simp),(by show 2 + 1<=sizeLine; (first|lia|omega)),fun z=>(by cases z),fun _ T4 hT4=>?_⟩
     have m6:=m5.add hT4 (.tup ([x',y'].map V.str ++ [.int len']))
     have keep:∀ (bb:Addr) (o:HO),H' bb=some o->(upd (upd (upd (upd (upd (upd H' L (.lst [.str x,.str y])) L2 (.lst ([x',y'].map V.str))) T (.tup ([x',y'].map V.str))) T2 (.tup [.int a,.int b])) T3 (.tup [.int len'])) T4 (.tup ([x',y'].map V.str ++ [.int len']))) bb=some o:=fun bb o e=>
      same_upd hT4 _ _ (same_upd hT3 _ _ (same_upd hT2 _ _ (same_upd hT _ _ (same_upd hL2 _ _ (same_upd hL _ _ e)))))
     have hx':x'=x\/x'=y:=by simpa using pm.mem_iff.mp (show x' ∈ [x',y'] by simp)
     have hy':y'=x\/y'=y:=by simpa using pm.mem_iff.mp (show y' ∈ [x',y'] by simp)
     have nx:nameB x=true:=xnm _ (List.mem_of_getElem? mx)
     have ny:nameB y=true:=xnm _ (List.mem_of_getElem? my)
     have nT4:T4 ≠ R:=by intro z; subst z; exact absurd (same_upd hT3 _ _ (same_upd hT2 _ _ (same_upd hT _ _ (same_upd hL2 _ _ (same_upd hL _ _ hR'))))) (by rw [hT4]; exact fun z=>nomatch z)
     refine ⟨R,vs,_,rfl,rfl,keep _ _ hR',by (first|lia|omega),?_⟩
     refine hN _ _ ⟨vs ++ [.ref T4],ws ++ [(x',y',len')],_,_,rfl,?_,?_,upd_same,?_,?_,by rw [List.length_append,vsl]; rfl,fun u hu=>?_,fun i t q e1 e2=>?_⟩
     ·refine ⟨m6.pn.other nRp,by rw [upd_ne nRN.symm]; exact m6.hn,by rw [upd_ne nRW.symm]; exact m6.hw,fun b o hb e=>by rw [upd_ne (ne_of_none e fR)]; exact m6.kp b o hb e,nN,nW,wN,fW⟩
     ·rw [upd_ne nRl]; exact keep _ _ hl'
     ·have d1:Dats (upd (upd (upd (upd (upd (upd (upd H' L (.lst [.str x,.str y])) L2 (.lst ([x',y'].map V.str))) T (.tup ([x',y'].map V.str))) T2 (.tup [.int a,.int b])) T3 (.tup [.int len'])) T4 (.tup ([x',y'].map V.str ++ [.int len']))) R (.lst (vs ++ [.ref T4]))) vs (ws.map wayD):=way_dats hd fun b ys e=>by
       rw [upd_ne (by intro z; subst z; rw [hR'] at e; cases e)]; exact keep _ _ e
      rw [List.map_append]
      refine dats_app d1 (.cons (.tup (vs:=[.str x',.str y',.int len']) (by rw [upd_ne nT4]; exact upd_same) (.cons (.str _) (.cons (.str _) (.cons (.int _) .nil)))) .nil)
     ·rw [List.take_add_one,eq,List.map_append,List.map_append,<-wsl]
      refine congrArg (ws ++ ·) ?_
      show _=[norm (wayOf xs kvs[i])]
      rw [ek,wayOf_eq mx my,el,mn,mx2]
      rfl
     ·rcases List.mem_append.mp hu with hu | hu
      ·exact good u hu
      ·rw [List.mem_singleton] at hu
       subst hu
       refine ⟨?_,?_,l1',l2'⟩
       ·rcases hx' with z | z <;> (show nameB x'=true; rw [z]; assumption)
       ·rcases hy' with z | z <;> (show nameB y'=true; rw [z]; assumption)
     ·have z:=keep _ _ (tt' i t q e1 e2)
      rw [upd_ne (by intro y; subst y; rw [tt' i _ q e1 e2] at hR'; cases hR')]; exact z
    ·rintro σ H' ⟨vs,ws,v8,v9,rfl,mi,hl',hR',hd,wsl,vsl,good,tt'⟩
     rw [List.length_map] at vsl
     rw [List.length_map,tl,List.take_length] at wsl
     have wsll:ws.length=kvs.length:=by rw [wsl,List.length_map,List.length_map]
     refine ⟨_,rfl,N,xs,rfl,SqL.of mi.hn,by (first|lia|omega),fun L ss hL pm srt=>?_⟩
     refine ⟨L,_,rfl,.inl ⟨SqL.of upd_same,fun T1 hT1=>?_⟩⟩
     have m1:=(mi.add hL (.lst (ss.map V.str))).add hT1 (.tup (ss.map V.str))
     have s1:Same H' (upd (upd H' L (.lst (ss.map V.str))) T1 (.tup (ss.map V.str))):=(same_upd hL).trans (same_upd hT1)
     refine ⟨_,rfl,R,vs,ws,rfl,SqL.of (s1 _ _ hR'),way_dats hd (fun b ys e=>s1 _ _ e),fun L2 vs' ws' hL2 d2 pm2=>?_⟩
     refine ⟨L2,_,rfl,.inl ⟨SqL.of upd_same,fun T2 hT2=>?_⟩⟩
     have s2:Same (upd (upd H' L (.lst (ss.map V.str))) T1 (.tup (ss.map V.str))) (upd (upd (upd (upd H' L (.lst (ss.map V.str))) T1 (.tup (ss.map V.str))) L2 (.lst vs')) T2 (.tup vs')):=(same_upd hL2).trans (same_upd hT2)
     refine ⟨(by show 2<=sizeLine; (first|lia|omega)),fun M hM=>?_⟩
     have m2:=((m1.add hL2 (.lst vs')).add hT2 (.tup vs')).add hM (.tup [.ref T1,.ref T2])
     refine k _ M ss ws' m2.pn (fun b o hb e=>m2.kp b o hb e) ⟨⟨⟨T1,T2,vs',upd_same,same_upd hM _ _ (s2 _ _ upd_same),same_upd hM _ _ upd_same,way_dats d2 fun b ys e=>same_upd hM _ _ (s2 _ _ e)⟩,by rw [pm.length_eq]; exact xl,pm.nodup_iff.mpr xnd,fun x hx=>xnm x (pm.mem_iff.mp hx),by rw [pm2.length_eq]; (first|lia|omega),fun u hu=>good u (pm2.mem_iff.mp hu)⟩,⟨xs,kvs.map (wayOf xs),pm,by rw [<-wsl]; exact pm2,ways_drawn xnd (by rw [xl]; exact wn) kn (by rw [xl]; exact jn)⟩,srt,by rw [pm2.length_eq]; (first|lia|omega)⟩
structure MapF (K:PySem.W.Frag) (mg:Str->Option Value) (fS:Addr) (fdS:FuncData):Prop where
 F:Fun K "_law_map" "_law_map" s_law_map fS fdS
 mg:mg "_law_map"=some (.ref fS)
 b:Binds K fdS ["_law_pen_here","_law_many"] []
end
end K11
namespace K11
open PySem L2
section
variable {P:Program} {w:World} {K:PySem.W.Frag} {mg:Str->Option Value} {base:Heap}
def spCaseK:Sp:=fun vs H Q _=>∃ p:Addr,vs=[.ref p]/\PnAt H p /\
 ∀ (H':Hp) (n:Nat) (c m:Addr) (xs:List Str) (ws:List Way) (rs1 rs2:List Row) (x:V) (d:PyData),PnAt H' p->Keep p H H'->CaseW H' c m n xs ws rs1 rs2 x d->RiseR rs1->RiseR rs2->Q (.ref c) H'
theorem ok_law_case (h_int:mg "int"=none) (h_sorted:mg "sorted"=none) (h_tuple:mg "tuple"=none) {fT fM fS fG:Addr} {fdT fdM fdS fdG:FuncData} (DK:DrawF K mg fT fdT) (GT:FnOk P w K mg base CX0 1 fT fdT ["_law_pen_here","_law_many"] spDraw) (XM:MapF K mg fM fdM) (GM:FnOk P w K mg base CX0 3 fM fdM ["_law_pen_here","_law_many"] spMapW) (XS:SomeF K mg fS fdS) (GS:FnOk P w K mg base CX0 2 fS fdS ["_law_pen_here","_law_things","_law_most"] (spSome K)) (XG:GreatF K mg fG fdG) (GG:FnOk P w K mg base CX0 2 fG fdG ["_law_pen_here","_law_least","_law_size"] spGreat) {f:Addr} {fd:FuncData} (F:Fun K "_law_case" "_law_case" s_law_case f fd):FnOk P w K mg base CX0 4 f fd ["_law_pen_here"] spCaseK:=by
 refine F.ok sc_law_case (fun vs H Q E h=>?_) (fun cdv A outer s H vs Q E hr h=>?_)
 ·obtain ⟨p,rfl,_⟩:=h
  rfl
 ·obtain ⟨p,rfl,hP,k⟩:=h
  have nd:=sc_law_case.nd
  have hu:=hu_of hr
  have hu64:=hr.units
  have big:100000 < sizeLine:=by decide
  refine ⟨_,(pss_cons (ps_set (i:=1) nd rfl (Or.inl rfl) (pe_call GM (hr.mono (by decide)) (by rfl) XM.mg XM.F.kp XM.b .nil pass0 (pa_cons (pv 0) (pa_cons (pe_op op_add pe_int (pe_call GT (hr.mono (by decide)) (by rfl) DK.mg DK.F.kp DK.b .nil pass0 (pa_cons (pv 0) (pa_cons (pe_ix ix_list (pe_lst (pa_cons pe_int (pa_cons pe_int (pa_cons pe_int (pa_cons pe_int (pa_cons pe_int (pa_cons pe_int pa_nil))))))) (pe_call GT (hr.mono (by decide)) (by rfl) DK.mg DK.F.kp DK.b .nil pass0 (pa_cons (pv 0) (pa_cons pe_int pa_nil))) (fun _ _=>rfl)) pa_nil)))) pa_nil))))
  (pss_cons (ps_set (i:=2) nd rfl (Or.inl rfl) (pe_ix ix_list (pe_lst (pa_cons pe_int (pa_cons pe_int pa_nil))) (pe_callTy call_int1 (by rfl) h_int PyProof.Rows.boot_int (pa_cons (pe_cmpR op_eq (pe_call GT (hr.mono (by decide)) (by rfl) DK.mg DK.F.kp DK.b .nil pass0 (pa_cons (pv 0) (pa_cons pe_int pa_nil))) pe_int (nomark _)) pa_nil)) (fun _ _=>rfl)))
  (pss_cons (ps_comp (ix:=3) (N:=["_law_place","_law_pen_here"]) (σ0:=fun σ=>[none,some 0].map fun j=>j.bind fun j=>(σ[j]?).join) nd rfl (Or.inl rfl) rfl (CompOk.caught (by rfl) (by decide +kernel) rfl (by decide +kernel) (by intro y hy; simp only [List.mem_cons,List.not_mem_nil,or_false] at hy; rcases hy with rfl <;> rfl)
   (by intro y hy e; simp only [List.mem_cons,List.not_mem_nil,or_false] at hy; rcases hy with rfl | rfl | rfl | rfl <;> first | exact ⟨_,rfl⟩ | cases e)) (fun σ _=>Carry.of [none,some 0] rfl (by
   intro i j x h1 h2
   match i,h1,h2 with
   | 0,_,h2=>cases h2
   | 1,h1,h2=>cases h1; cases h2; exact ⟨rfl,.inl rfl,.inl rfl⟩
   | n + 2,h1,_=>cases h1)) (pi_list (pe_call GS (hr.mono (by decide)) (by rfl) XS.mg XS.F.kp XS.b .nil pass0 (pa_cons (pv 0) (pa_cons (pe_ix ix_tup (pv 1) pe_int (fun _ _=>rfl)) (pa_cons (pv 2) pa_nil)))))
   (fun s2 H C fp=>⟨(pg_name (i:=0) (show (["_law_place","_law_pen_here"]:List Str).Nodup by decide +kernel) rfl (Or.inl rfl)),pts_nil,(pe_tup (pa_cons (pv 0) (pa_cons (pe_call GG (hr.mono (by decide)) (by rfl) XG.mg XG.F.kp XG.b .nil pass0 (pa_cons (pv 1) (pa_cons pe_int (pa_cons pe_int pa_nil)))) pa_nil)))⟩))
  (pss_cons (ps_comp (ix:=4) (N:=["_law_place","_law_pen_here"]) (σ0:=fun σ=>[none,some 0].map fun j=>j.bind fun j=>(σ[j]?).join) nd rfl (Or.inl rfl) rfl (CompOk.caught (by rfl) (by decide +kernel) rfl (by decide +kernel) (by intro y hy; simp only [List.mem_cons,List.not_mem_nil,or_false] at hy; rcases hy with rfl <;> rfl)
   (by intro y hy e; simp only [List.mem_cons,List.not_mem_nil,or_false] at hy; rcases hy with rfl | rfl | rfl | rfl <;> first | exact ⟨_,rfl⟩ | cases e)) (fun σ _=>Carry.of [none,some 0] rfl (by
   intro i j x h1 h2
   match i,h1,h2 with
   | 0,_,h2=>cases h2
   | 1,h1,h2=>cases h1; cases h2; exact ⟨rfl,.inl rfl,.inl rfl⟩
   | n + 2,h1,_=>cases h1)) (pi_list (pe_call GS (hr.mono (by decide)) (by rfl) XS.mg XS.F.kp XS.b .nil pass0 (pa_cons (pv 0) (pa_cons (pe_ix ix_tup (pv 1) pe_int (fun _ _=>rfl)) (pa_cons pe_int pa_nil)))))
   (fun s2 H C fp=>⟨(pg_name (i:=0) (show (["_law_place","_law_pen_here"]:List Str).Nodup by decide +kernel) rfl (Or.inl rfl)),pts_nil,(pe_tup (pa_cons (pv 0) (pa_cons (pe_call GG (hr.mono (by decide)) (by rfl) XG.mg XG.F.kp XG.b .nil pass0 (pa_cons (pv 1) (pa_cons pe_int (pa_cons pe_int pa_nil)))) pa_nil)))⟩))
  (pss_cons (ps_set (i:=5) nd rfl (Or.inl rfl) (pe_ix ix_list (pe_lst (pa_cons pe_non (pa_cons (pe_op op_add pe_int (pe_call GT (hr.mono (by decide)) (by rfl) DK.mg DK.F.kp DK.b .nil pass0 (pa_cons (pv 0) (pa_cons pe_int pa_nil)))) (pa_cons (pe_op op_add pe_int (pe_call GT (hr.mono (by decide)) (by rfl) DK.mg DK.F.kp DK.b .nil pass0 (pa_cons (pv 0) (pa_cons pe_int pa_nil)))) (pa_cons (pe_call GG (hr.mono (by decide)) (by rfl) XG.mg XG.F.kp XG.b .nil pass0 (pa_cons (pv 0) (pa_cons pe_int (pa_cons pe_int pa_nil)))) pa_nil))))) (pe_call GT (hr.mono (by decide)) (by rfl) DK.mg DK.F.kp DK.b .nil pass0 (pa_cons (pv 0) (pa_cons pe_int pa_nil))) (fun _ _=>rfl)))
  (pss_one (ps_ret (pe_tup (pa_cons (pv 1) (pa_cons (pe_callTy call_tuple_of (by rfl) h_tuple PyProof.Rows.boot_tuple (pa_cons (pe_callB call_sorted_rows (by rfl) h_sorted PyProof.Rows.boot_sorted (pa_cons (pv 3) pa_nil)) pa_nil)) (pa_cons (pe_callTy call_tuple_of (by rfl) h_tuple PyProof.Rows.boot_tuple (pa_cons (pe_callB call_sorted_rows (by rfl) h_sorted PyProof.Rows.boot_sorted (pa_cons (pv 4) pa_nil)) pa_nil)) (pa_cons (pv 5) pa_nil)))))))))))),?_⟩
  refine ⟨_,rfl,_,rfl,(by show 6<=sizeLine; (first|lia|omega)),fun L0 hL0=>?_⟩
  have nL0:L0 ≠ p:=hP.ne hL0
  refine ⟨_,rfl,p,6,rfl,hP.other nL0,by decide,by decide,fun d0 a0 b0 c0 d00 d01=>?_⟩
  obtain ⟨mm,hmm,mm1,mm2⟩:∃ mm:Int,atI [V.int 9,.int 9,.int 9,.int 9,.int 9,.int 12] d0=some (.int mm)/\9<=mm/\mm<=12:=by
   have:d0=0\/d0=1\/d0=2\/d0=3\/d0=4\/d0=5:=by (first|lia|omega)
   rcases this with rfl | rfl | rfl | rfl | rfl | rfl
   ·exact ⟨9,rfl,by decide,by decide⟩
   ·exact ⟨9,rfl,by decide,by decide⟩
   ·exact ⟨9,rfl,by decide,by decide⟩
   ·exact ⟨9,rfl,by decide,by decide⟩
   ·exact ⟨9,rfl,by decide,by decide⟩
   ·exact ⟨12,rfl,by decide,by decide⟩
  have q00:Keep p H (upd (upd H L0 (.lst [.int 9,.int 9,.int 9,.int 9,.int 9,.int 12])) p (.lst (penL a0 b0 c0))):=(Keep.of_same (same_upd hL0)).trans Keep.upd
  have hL00:(upd (upd H L0 (.lst [.int 9,.int 9,.int 9,.int 9,.int 9,.int 12])) p (.lst (penL a0 b0 c0))) L0=some (.lst [.int 9,.int 9,.int 9,.int 9,.int 9,.int 12]):=by rw [upd_ne nL0,upd_same]
  have P00:PnAt (upd (upd H L0 (.lst [.int 9,.int 9,.int 9,.int 9,.int 9,.int 12])) p (.lst (penL a0 b0 c0))) p:=PnAt.set _ _ _
  generalize upd (upd H L0 (.lst [.int 9,.int 9,.int 9,.int 9,.int 9,.int 12])) p (.lst (penL a0 b0 c0))=H00 at q00 hL00 P00
  refine ⟨L0,_,_,_,rfl,rfl,SqL.of hL00,hmm,p,mm,rfl,P00,by (first|lia|omega),by (first|lia|omega),fun d1 a1 b1 c1 d10 d11=>⟨_,_,rfl,rfl,?_⟩⟩
  obtain ⟨n,hn⟩:∃ n:Nat,(n:Int)=1 + d1:=⟨(1 + d1).toNat,by (first|lia|omega)⟩
  have n1:1<=n:=by (first|lia|omega)
  have n30:n<=30:=by (first|lia|omega)
  have q0:Keep p H (upd H00 p (.lst (penL a1 b1 c1))):=q00.trans Keep.upd
  have P0:PnAt (upd H00 p (.lst (penL a1 b1 c1))) p:=PnAt.set _ _ _
  generalize upd H00 p (.lst (penL a1 b1 c1))=H0 at q0 P0
  refine ⟨p,n,(by rw [hn]; rfl),P0,n1,n30,fun H4 m xs ws P4 q4 hM=>?_⟩
  obtain ⟨ta,tb,mvs,hm1',hm2',hm3',hm4'⟩:=hM.at'.ex
  have xl:=hM.at'.len
  refine ⟨(by show 2<=sizeLine; (first|lia|omega)),fun L1 hL1=>?_⟩
  have nL1:L1 ≠ p:=P4.ne hL1
  refine ⟨_,rfl,p,6,rfl,P4.other nL1,by decide,by decide,fun d2 a2 b2 c2 d20 d21=>?_⟩
  refine ⟨rfl,.inr ⟨_,rfl,?_⟩⟩
  obtain ⟨most,hmo,mo1,mo2⟩:∃ mo:Int,atI [V.int 6,V.int 10] (if decide (V.int d2=V.int 5)=true then 1 else 0)=some (.int mo)/\1<=mo/\mo<=10:=by
   by_cases z:decide (V.int d2=V.int 5)=true
   ·rw [if_pos z]; exact ⟨10,rfl,by decide,by decide⟩
   ·rw [if_neg z]; exact ⟨6,rfl,by decide,by decide⟩
  have q5:Keep p H4 (upd (upd H4 L1 (.lst [.int 6,.int 10])) p (.lst (penL a2 b2 c2))):=(Keep.of_same (same_upd hL1)).trans Keep.upd
  have hL11:(upd (upd H4 L1 (.lst [.int 6,.int 10])) p (.lst (penL a2 b2 c2))) L1=some (.lst [.int 6,.int 10]):=by rw [upd_ne nL1,upd_same]
  have P5:PnAt (upd (upd H4 L1 (.lst [.int 6,.int 10])) p (.lst (penL a2 b2 c2))) p:=PnAt.set _ _ _
  generalize upd (upd H4 L1 (.lst [.int 6,.int 10])) p (.lst (penL a2 b2 c2))=H5 at q5 hL11 P5
  refine ⟨L1,_,_,_,rfl,rfl,SqL.of hL11,hmo,?_⟩
  have t4:=tupK P4 q5
  have hm1:=t4 _ _ hm1'
  have hm2:=t4 _ _ hm2'
  refine ⟨_,rfl,_,rfl,m,_,_,_,rfl,rfl,SqT.of hm1,rfl,_,rfl,p,ta,xs,most,rfl,P5,SqT.of hm2,by (first|lia|omega),by (first|lia|omega),by (first|lia|omega),by (first|lia|omega),fun Ha Da ysa zsa Pa ka fa da pma l1a l2a=>?_⟩
  have nDa:Da ≠ p:=P5.ne fa
  refine ⟨Da,rfl,⟨_,SqL.of da⟩,?_⟩
  have yla:ysa.length<=1000:=by (first|lia|omega)
  have ysuba:∀ y ∈ ysa,y ∈ xs:=fun y hy=>pma.mem_iff.mp (List.mem_append_left _ hy)
  have ynda:ysa.Nodup:=(List.nodup_append.mp (pma.nodup_iff.mpr hM.at'.nd)).1
  refine read_map over_list (xs:=ysa.map V.str) (fun D i σ H' acc=>∃ (v:Option V) (rs:List Row),σ=[v,some (.ref p)]/\PnAt H' p/\(∀ b o,b ≠ p->Ha b=some o->H' b=some o)/\H' D=some (.lst acc)/\Dats H' acc (rs.map rowD)/\acc.length=i/\rs.map (·.1)=ysa.take i/\∀ r ∈ rs,0<=r.2/\r.2 < 10 ^ 30)
   (by rw [List.length_map]; (first|lia|omega)) (fun D hD=>⟨_,[],rfl,Pa.other (Pa.ne hD),fun b o hb e=>same_upd hD _ _ e,upd_same,.nil,rfl,rfl,fun r hr=>(nomatch hr)⟩)
   (fun D i σ H' acc hD ⟨v,rs,_,_,kp,hDD,_,al,_⟩=>⟨SqL.of (kp _ _ nDa da),hDD,al⟩) ?_ ?_
  ·rintro D i σ H' acc x B hD ex ⟨v,rs,rfl,P2,k2,d2,dd,al,rt,rl⟩ hB
   obtain ⟨y,ey,rfl⟩:∃ y,ysa[i]? = some y/\x=.str y:=by
    rw [List.getElem?_map] at ex
    cases z:ysa[i]? with
    | none=>rw [z] at ex; cases ex
    | some y=>rw [z] at ex; exact ⟨y,rfl,(Option.some.inj ex).symm⟩
   have nD:D ≠ p:=Pa.ne hD
   refine ⟨_,rfl,_,rfl,p,0,4,rfl,P2,by decide,by decide,by decide,by decide,fun l a b c la lb=>?_⟩
   refine ⟨(by show 2<=sizeLine; (first|lia|omega)),fun T hT=>?_⟩
   have d3:(upd (upd H' p (.lst (penL a b c))) T (.tup [.str y,.int l])) D=some (.lst acc):=same_upd hT _ _ (by rw [upd_ne nD]; exact d2)
   have nT:T ≠ D:=by intro z; subst z; rw [upd_ne nD,d2] at hT; cases hT
   have nTp:T ≠ p:=(PnAt.set (H:=H') (p:=p) a b c).ne hT
   refine hB _ _ _ d3 ⟨_,rs ++ [(y,l)],rfl,((PnAt.set a b c).other nTp).other nD,fun b' o hb e=>?_,upd_same,?_,by rw [List.length_append,al]; rfl,?_,fun r hr=>?_⟩
   ·rw [upd_ne (ne_of_none e hD)]
    exact same_upd hT _ _ (by rw [upd_ne hb]; exact k2 b' o hb e)
   ·rw [List.map_append]
    refine dats_app (row_dats dd fun b' ys e=>?_) (.cons (rowD_of (u:=(y,l)) (by rw [upd_ne nT]; exact upd_same)) .nil)
    rw [upd_ne (by intro z; subst z; rw [d2] at e; cases e)]
    exact same_upd hT _ _ (by rw [upd_ne (by intro z; subst z; obtain ⟨_,_,_,z⟩:=P2; rw [z] at e; cases e)]; exact e)
   ·rw [List.map_append,rt,List.take_add_one,ey]
    rfl
   ·rcases List.mem_append.mp hr with hr | hr
    ·exact rl r hr
    ·rw [List.mem_singleton] at hr
     subst hr
     exact ⟨la,lb⟩
  rintro Sa σa HSa usa hSa ⟨va,rsa,rfl,PSa,kSa,dSa,dda,ala,rta,rla⟩
  have rlena:rsa.length=ysa.length:=by
   have:=congrArg List.length rta
   rw [List.length_map,List.length_take,List.length_map,Nat.min_self] at this
   exact this
  rw [List.length_map,List.take_length] at rta
  have oka:RowsOk xs 0 rsa:=⟨fun r hr=>ysuba _ (by rw [<-rta]; exact List.mem_map_of_mem hr),by rw [rta]; exact ynda,rla,by (first|lia|omega)⟩
  have nSa:Sa ≠ p:=Pa.ne hSa
  have qa:Keep p H5 HSa:=fun b o hb e=>kSa b o hb (ka b o hb e)
  have t5:=tupK P5 qa
  refine ⟨_,rfl,_,rfl,m,_,_,_,rfl,rfl,SqT.of (t5 _ _ hm1),rfl,p,ta,xs,8,rfl,PSa,SqT.of (t5 _ _ hm2),by (first|lia|omega),by (first|lia|omega),by (first|lia|omega),by (first|lia|omega),fun Hb Db ysb zsb Pb kb fb db pmb l1b l2b=>?_⟩
  have nDb:Db ≠ p:=PSa.ne fb
  refine ⟨Db,rfl,⟨_,SqL.of db⟩,?_⟩
  have ylb:ysb.length<=1000:=by (first|lia|omega)
  have ysubb:∀ y ∈ ysb,y ∈ xs:=fun y hy=>pmb.mem_iff.mp (List.mem_append_left _ hy)
  have yndb:ysb.Nodup:=(List.nodup_append.mp (pmb.nodup_iff.mpr hM.at'.nd)).1
  refine read_map over_list (xs:=ysb.map V.str) (fun D i σ H' acc=>∃ (v:Option V) (rs:List Row),σ=[v,some (.ref p)]/\PnAt H' p/\(∀ b o,b ≠ p->Hb b=some o->H' b=some o)/\H' D=some (.lst acc)/\Dats H' acc (rs.map rowD)/\acc.length=i/\rs.map (·.1)=ysb.take i/\∀ r ∈ rs,1<=r.2/\r.2 < 10 ^ 30)
   (by rw [List.length_map]; (first|lia|omega)) (fun D hD=>⟨_,[],rfl,Pb.other (Pb.ne hD),fun b o hb e=>same_upd hD _ _ e,upd_same,.nil,rfl,rfl,fun r hr=>(nomatch hr)⟩)
   (fun D i σ H' acc hD ⟨v,rs,_,_,kp,hDD,_,al,_⟩=>⟨SqL.of (kp _ _ nDb db),hDD,al⟩) ?_ ?_
  ·rintro D i σ H' acc x B hD ex ⟨v,rs,rfl,P2,k2,d2,dd,al,rt,rl⟩ hB
   obtain ⟨y,ey,rfl⟩:∃ y,ysb[i]? = some y/\x=.str y:=by
    rw [List.getElem?_map] at ex
    cases z:ysb[i]? with
    | none=>rw [z] at ex; cases ex
    | some y=>rw [z] at ex; exact ⟨y,rfl,(Option.some.inj ex).symm⟩
   have nD:D ≠ p:=Pb.ne hD
   refine ⟨_,rfl,_,rfl,p,1,4,rfl,P2,by decide,by decide,by decide,by decide,fun l a b c la lb=>?_⟩
   refine ⟨(by show 2<=sizeLine; (first|lia|omega)),fun T hT=>?_⟩
   have d3:(upd (upd H' p (.lst (penL a b c))) T (.tup [.str y,.int l])) D=some (.lst acc):=same_upd hT _ _ (by rw [upd_ne nD]; exact d2)
   have nT:T ≠ D:=by intro z; subst z; rw [upd_ne nD,d2] at hT; cases hT
   have nTp:T ≠ p:=(PnAt.set (H:=H') (p:=p) a b c).ne hT
   refine hB _ _ _ d3 ⟨_,rs ++ [(y,l)],rfl,((PnAt.set a b c).other nTp).other nD,fun b' o hb e=>?_,upd_same,?_,by rw [List.length_append,al]; rfl,?_,fun r hr=>?_⟩
   ·rw [upd_ne (ne_of_none e hD)]
    exact same_upd hT _ _ (by rw [upd_ne hb]; exact k2 b' o hb e)
   ·rw [List.map_append]
    refine dats_app (row_dats dd fun b' ys e=>?_) (.cons (rowD_of (u:=(y,l)) (by rw [upd_ne nT]; exact upd_same)) .nil)
    rw [upd_ne (by intro z; subst z; rw [d2] at e; cases e)]
    exact same_upd hT _ _ (by rw [upd_ne (by intro z; subst z; obtain ⟨_,_,_,z⟩:=P2; rw [z] at e; cases e)]; exact e)
   ·rw [List.map_append,rt,List.take_add_one,ey]
    rfl
   ·rcases List.mem_append.mp hr with hr | hr
    ·exact rl r hr
    ·rw [List.mem_singleton] at hr
     subst hr
     exact ⟨la,lb⟩
  rintro Sb σb HSb usb hSb ⟨vb,rsb,rfl,PSb,kSb,dSb,ddb,alb,rtb,rlb⟩
  have rlenb:rsb.length=ysb.length:=by
   have:=congrArg List.length rtb
   rw [List.length_map,List.length_take,List.length_map,Nat.min_self] at this
   exact this
  rw [List.length_map,List.take_length] at rtb
  have okb:RowsOk xs 1 rsb:=⟨fun r hr=>ysubb _ (by rw [<-rtb]; exact List.mem_map_of_mem hr),by rw [rtb]; exact yndb,rlb,by (first|lia|omega)⟩
  have nSb:Sb ≠ p:=Pb.ne hSb
  have qb:Keep p HSa HSb:=fun b o hb e=>kSb b o hb (kb b o hb e)
  have t6:=tupK PSa qb
  refine ⟨_,rfl,p,7,rfl,PSb,by decide,by decide,fun d3 a3 b3 c3 d30 d31=>⟨_,_,rfl,rfl,?_⟩⟩
  refine ⟨_,rfl,p,3,rfl,PnAt.set _ _ _,by decide,by decide,fun d4 a4 b4 c4 d40 d41=>⟨_,_,rfl,rfl,?_⟩⟩
  refine ⟨_,rfl,p,1,3,rfl,PnAt.set _ _ _,by decide,by decide,by decide,by decide,fun l3 a5 b5 c5 l30 l31=>?_⟩
  refine ⟨(by show 4<=sizeLine; (first|lia|omega)),fun L2 hL2=>?_⟩
  have P7:PnAt (upd (upd (upd HSb p (.lst (penL a3 b3 c3))) p (.lst (penL a4 b4 c4))) p (.lst (penL a5 b5 c5))) p:=PnAt.set _ _ _
  have nL2:L2 ≠ p:=P7.ne hL2
  refine ⟨_,rfl,p,4,rfl,P7.other nL2,by decide,by decide,fun d5 a6 b6 c6 d50 d51=>?_⟩
  have q7:Keep p HSb (upd (upd (upd (upd (upd HSb p (.lst (penL a3 b3 c3))) p (.lst (penL a4 b4 c4))) p (.lst (penL a5 b5 c5))) L2 (.lst [.non,.int (1 + d3),.int (1 + d4),.int l3])) p (.lst (penL a6 b6 c6))):=(((Keep.upd.trans Keep.upd).trans Keep.upd).trans (Keep.of_same (same_upd hL2))).trans Keep.upd
  have hL7:(upd (upd (upd (upd (upd HSb p (.lst (penL a3 b3 c3))) p (.lst (penL a4 b4 c4))) p (.lst (penL a5 b5 c5))) L2 (.lst [.non,.int (1 + d3),.int (1 + d4),.int l3])) p (.lst (penL a6 b6 c6))) L2=some (.lst [.non,.int (1 + d3),.int (1 + d4),.int l3]):=by rw [upd_ne nL2,upd_same]
  have P8:PnAt (upd (upd (upd (upd (upd HSb p (.lst (penL a3 b3 c3))) p (.lst (penL a4 b4 c4))) p (.lst (penL a5 b5 c5))) L2 (.lst [.non,.int (1 + d3),.int (1 + d4),.int l3])) p (.lst (penL a6 b6 c6))) p:=PnAt.set _ _ _
  generalize upd (upd (upd (upd (upd HSb p (.lst (penL a3 b3 c3))) p (.lst (penL a4 b4 c4))) p (.lst (penL a5 b5 c5))) L2 (.lst [.non,.int (1 + d3),.int (1 + d4),.int l3])) p (.lst (penL a6 b6 c6))=H7 at q7 hL7 P8
  obtain ⟨x,dx,hx,lim⟩:∃ (x:V) (dx:PyData),atI [V.non,.int (1 + d3),.int (1 + d4),.int l3] d5=some x/\Lim x dx:=by
   have:d5=0\/d5=1\/d5=2\/d5=3:=by (first|lia|omega)
   rcases this with rfl | rfl | rfl | rfl
   ·exact ⟨_,_,rfl,.inl ⟨rfl,rfl⟩⟩
   ·exact ⟨_,_,rfl,.inr ⟨_,rfl,rfl,by (first|lia|omega),by (first|lia|omega)⟩⟩
   ·exact ⟨_,_,rfl,.inr ⟨_,rfl,rfl,by (first|lia|omega),by (first|lia|omega)⟩⟩
   ·exact ⟨_,_,rfl,.inr ⟨_,rfl,rfl,l30,l31⟩⟩
  refine ⟨L2,_,_,x,rfl,rfl,SqL.of hL7,hx,?_⟩
  have t7:=tupK PSb q7
  have tA:∀ b ys,HSa b=some (.tup ys)->H7 b=some (.tup ys):=fun b ys z=>t7 _ _ (t6 _ _ z)
  have hS7:H7 Sa=some (.lst usa):=q7 _ _ nSa (qb _ _ nSa dSa)
  have dS7:Dats H7 usa (rsa.map rowD):=row_dats dda tA
  have hF7:H7 Sb=some (.lst usb):=q7 _ _ nSb dSb
  have dF7:Dats H7 usb (rsb.map rowD):=row_dats ddb t7
  have hM7:=((hM.keepT t4).keepT t5).keepT tA
  refine ⟨_,rfl,_,rfl,Sa,usa,rsa,rfl,SqL.of hS7,dS7,fun l1 ws1 rs1' hl1 dd1 pm1 ri1=>⟨l1,_,rfl,.inl ⟨SqL.of upd_same,fun T1 hT1=>?_⟩⟩⟩
  have s1:Same H7 (upd (upd H7 l1 (.lst ws1)) T1 (.tup ws1)):=(same_upd hl1).trans (same_upd hT1)
  have hT1':(upd (upd H7 l1 (.lst ws1)) T1 (.tup ws1)) T1=some (.tup ws1):=upd_same
  generalize upd (upd H7 l1 (.lst ws1)) T1 (.tup ws1)=H8 at s1 hT1'
  refine ⟨_,rfl,Sb,usb,rsb,rfl,SqL.of (s1 _ _ hF7),row_dats dF7 (fun b ys z=>s1 _ _ z),fun l2 ws2 rs2' hl2 dd2 pm2 ri2=>⟨l2,_,rfl,.inl ⟨SqL.of upd_same,fun T2 hT2=>?_⟩⟩⟩
  have s2:Same H8 (upd (upd H8 l2 (.lst ws2)) T2 (.tup ws2)):=(same_upd hl2).trans (same_upd hT2)
  have hT2':(upd (upd H8 l2 (.lst ws2)) T2 (.tup ws2)) T2=some (.tup ws2):=upd_same
  generalize upd (upd H8 l2 (.lst ws2)) T2 (.tup ws2)=H9 at s2 hT2'
  refine ⟨_,rfl,(by show 4<=sizeLine; (first|lia|omega)),fun U hU=>?_⟩
  have s3:=same_upd (o:=.tup [.ref m,.ref T1,.ref T2,x]) hU
  have s13:Same H7 (upd H9 U (.tup [.ref m,.ref T1,.ref T2,x])):=(s1.trans s2).trans s3
  have PU:PnAt (upd H9 U (.tup [.ref m,.ref T1,.ref T2,x])) p:=by obtain ⟨_,_,_,z⟩:=P8; exact ⟨_,_,_,s13 _ _ z⟩
  have kp:Keep p H (upd H9 U (.tup [.ref m,.ref T1,.ref T2,x])):=(((((q0.trans q4).trans q5).trans qa).trans qb).trans q7).trans (Keep.of_same s13)
  refine k _ n U m xs ws rs1' rs2' x dx PU kp ⟨⟨T1,T2,ws1,ws2,upd_same,s3 _ _ (s2 _ _ hT1'),row_dats dd1 (fun b ys z=>s13 _ _ z),s3 _ _ hT2',row_dats dd2 (fun b ys z=>s3 _ _ (s2 _ _ z))⟩,hM7.keepT (fun b ys z=>s13 _ _ z),n1,n30,oka.perm pm1,okb.perm pm2,?_,?_,lim⟩ ri1 ri2
  ·rw [pm1.length_eq]; (first|lia|omega)
  ·rw [pm2.length_eq]; (first|lia|omega)
end
end K11
namespace K11
open PySem L2
section
variable {P:Program} {w:World} {K:PySem.W.Frag} {mg:Str->Option Value} {base:Heap}
theorem ok_law_all (h_len:mg "len"=none) (h_reversed:mg "reversed"=none) (h_sorted:mg "sorted"=none) {f:Addr} {fd:FuncData} (F:Fun K "_law_all" "_law_all" s_law_all f fd):FnOk P w K mg base CX0 1 f fd ["_law_case_here"] spAllR:=by
 refine F.ok sc_law_all (fun vs H Q E h=>?_) (fun cdv A outer s H vs Q E hr h=>?_)
 ·obtain ⟨c,sites,x,d,rfl,_⟩:=h
  rfl
 ·obtain ⟨c,sites,x,d,rfl,cs,k⟩:=h
  have nd:=sc_law_all.nd
  have hu:=hu_of hr
  have hu64:=hr.units
  have big:100000 < sizeLine:=by decide
  refine ⟨_,(pss_cons (ps_set (i:=1) nd rfl (Or.inl rfl) (pe_lst (pa_cons (pe_tup pa_nil) pa_nil)))
  (pss_cons (ps_for PassesOwn.never rfl (pi_rev (by rfl) h_reversed (pa_cons (pe_ix (ix_tupK K rfl) (pv 0) pe_int (fun _ _=>rfl)) pa_nil)) (pg_tupK K rfl rfl (pgs_cons (pg_name (i:=2) nd rfl (Or.inr rfl)) (pgs_cons (pg_name (i:=3) nd rfl (Or.inl rfl)) pgs_nil)))
  (pss_one (ps_set (i:=1) nd rfl (Or.inl rfl) (pe_op op_cat (pv 1) (pe_comp (N:=["_law_some_here","_law_site"]) (σ0:=fun σ=>[none,some 2].map fun j=>j.bind fun j=>(σ[j]?).join) rfl (CompOk.caught (by rfl) (by decide +kernel) rfl (by decide +kernel) (by intro y hy; simp only [List.mem_cons,List.not_mem_nil,or_false] at hy; rcases hy with rfl <;> rfl)
   (by intro y hy e; simp only [List.mem_cons,List.not_mem_nil,or_false] at hy; rcases hy with rfl | rfl | rfl <;> first | exact ⟨_,rfl⟩ | cases e)) (fun σ _=>Carry.of [none,some 2] rfl (by
   intro i j x h1 h2
   match i,h1,h2 with
   | 0,_,h2=>cases h2
   | 1,h1,h2=>cases h1; cases h2; exact ⟨rfl,.inl rfl,.inl rfl⟩
   | n + 2,h1,_=>cases h1)) (pi_listK K rfl (pv 1))
   (fun s2 H C fp=>⟨(pg_name (i:=0) (show (["_law_some_here","_law_site"]:List Str).Nodup by decide +kernel) rfl (Or.inl rfl)),pts_nil,(pe_op (op_catTK K rfl) (pe_tup (pa_cons (pv 1) pa_nil)) (pv 0))⟩))))))
  (pss_one (ps_ret (pe_callB (call_sorted_tupsK K rfl) (by rfl) h_sorted PyProof.Rows.boot_sorted (pa_cons (pe_comp (N:=["_law_some_here","_law_case_here"]) (σ0:=fun σ=>[none,some 0].map fun j=>j.bind fun j=>(σ[j]?).join) rfl (CompOk.caught (by rfl) (by decide +kernel) rfl (by decide +kernel) (by intro y hy; simp only [List.mem_cons,List.not_mem_nil,or_false] at hy; rcases hy with rfl <;> rfl)
   (by intro y hy e; simp only [List.mem_cons,List.not_mem_nil,or_false] at hy; rcases hy with rfl | rfl | rfl | rfl <;> first | exact ⟨_,rfl⟩ | cases e)) (fun σ _=>Carry.of [none,some 0] rfl (by
   intro i j x h1 h2
   match i,h1,h2 with
   | 0,_,h2=>cases h2
   | 1,h1,h2=>cases h1; cases h2; exact ⟨rfl,.inl rfl,.inl rfl⟩
   | n + 2,h1,_=>cases h1)) (pi_listK K rfl (pv 1))
   (fun s2 H C fp=>⟨(pg_name (i:=0) (show (["_law_some_here","_law_case_here"]:List Str).Nodup by decide +kernel) rfl (Or.inl rfl)),(pts_one (pw_and (pt_cmpR op_gt (pe_callB (call_len_seqK K rfl) (by rfl) h_len PySem.boot_len (pa_cons (pv 0) pa_nil)) pe_int (nomark _)) (pw_and1 (pw_or (pt_cmp (pc_isN (pe_ix (ix_tupK K rfl) (pv 1) pe_int (fun _ _=>rfl)))) (pw_or1 (pt_cmpR op_le (pe_callB (call_len_seqK K rfl) (by rfl) h_len PySem.boot_len (pa_cons (pv 0) pa_nil)) (pe_ix (ix_tupK K rfl) (pv 1) pe_int (fun _ _=>rfl)) (nomark _)))).pt)).pt),(pv 0)⟩)) pa_nil)))))),?_⟩
  obtain ⟨mV,t2V,t1,us1,rs1,hc,ht1,hd1,rfl,snd,sl,lim⟩:=cs
  have ul:=rows_len hd1
  rw [List.length_map] at sl
  refine ⟨(by show 0<=sizeLine; (first|lia|omega)),fun T0 hT0=>⟨(by show 1<=sizeLine; (first|lia|omega)),fun L0 hL0=>?_⟩⟩
  have s0:=(same_upd (o:=.tup []) hT0).trans (same_upd (o:=.lst [.ref T0]) hL0)
  refine ⟨_,rfl,c,_,_,_,rfl,rfl,SqT.of (s0 _ _ hc),rfl,t1,us1,rfl,SqT.of (s0 _ _ ht1),?_⟩
  refine for_revB (xs:=us1) (fun i σ H'=>∃ (L:Addr) (us:List V) (fs:List (List Str)) (v2 v3:Option V),σ=[some (.ref c),some (.ref L),v2,v3]/\Same H H'/\H' L=some (.lst us)/\Tups H' us fs/\Subs ((rs1.map (·.1)).drop (rs1.length - i)) fs/\fs.length=2 ^ i)
   ⟨L0,[.ref T0],[[]],_,_,rfl,s0,upd_same,.cons (by rw [upd_ne (by intro z; subst z; rw [upd_same] at hL0; cases hL0)]; exact upd_same) .nil,by rw [Nat.sub_zero,List.drop_of_length_le (by rw [List.length_map]; exact Nat.le_refl _)]; exact Subs.nil,rfl⟩
   (fun i σ H' _ ⟨_,_,_,_,_,_,sa,_⟩=>SqT.of (sa _ _ ht1)) ?_ ?_
  ·rintro i xx σ H' ex ⟨L,us,fs,v2,v3,rfl,sa,hL,tU,sub,fl⟩ rt bk
   have hi:i < us1.length:=by
    have:=(List.getElem?_eq_some_iff.mp ex).1
    rwa [List.length_reverse] at this
   rw [List.getElem?_reverse hi,ul] at ex
   obtain ⟨u,t,eu,rfl,ht⟩:=dats_row hd1 ex
   have il:i < 10:=by (first|lia|omega)
   have f512:fs.length<=512:=by rw [fl]; exact Nat.le_trans (Nat.pow_le_pow_right (by decide) (show i<=9 by (first|lia|omega))) (by decide)
   have hul:=tU.len
   have fl10:∀ f ∈ fs,f.length<=10:=fun f hf=>by
    have:=((sub.2 f).mp hf).length_le
    rw [List.length_drop,List.length_map] at this
    (first|lia|omega)
   refine ⟨t,_,rfl,SqT.of (sa _ _ ht),rfl,_,_,rfl,_,_,rfl,rfl,?_⟩
   refine ⟨_,rfl,_,rfl,L,rfl,⟨_,SqL.of hL⟩,?_⟩
   refine read_map over_list (xs:=us) (fun D j σ' H2 acc=>∃ v0:Option V,σ'=[v0,some (.str u.1)]/\Same H' H2/\H2 D=some (.lst acc)/\Tups H2 acc ((fs.take j).map (u.1 :: ·))/\acc.length=j)
    (by (first|lia|omega)) (fun D hD=>⟨_,rfl,same_upd hD,upd_same,.nil,rfl⟩) (fun D j σ' H2 acc hD ⟨v0,_,sb,hDD,_,al⟩=>⟨SqL.of (sb _ _ hL),hDD,al⟩) ?_ ?_
   ·rintro D j σ' H2 acc x' B hD ex' ⟨v0,rfl,sb,hDD,tp,al⟩ hB
    obtain ⟨tf,f,rfl,ef,htf⟩:=tU.get ex'
    have fm:=fl10 f (List.mem_of_getElem? ef)
    have go:∀ (H5:Hp) (T:Addr),Same H2 H5->H5 T=some (.tup ((u.1 :: f).map V.str))->B [some (.ref tf),some (.str u.1)] (.ref T) H5:=fun H5 T s5 hT=>by
     refine hB _ _ _ (s5 _ _ hDD) ⟨_,rfl,fun b o' z=>by rw [upd_ne (ne_of_none z hD)]; exact s5 _ _ (sb _ _ z),upd_same,?_,by rw [List.length_append,al]; rfl⟩
     rw [List.take_add_one,ef,List.map_append]
     refine ((tp.keep fun b ys z=>s5 _ _ z).app (.cons hT .nil)).keep fun b ys z=>?_
     rw [upd_ne (ne_of z (s5 _ _ hDD) (fun q=>by cases q))]
     exact z
    refine ⟨_,rfl,(by show 1<=sizeLine; (first|lia|omega)),fun T1 hT1=>⟨_,rfl,T1,tf,_,_,rfl,rfl,SqT.of upd_same,SqT.of (same_upd hT1 _ _ (sb _ _ htf)),by simp,by rw [List.length_map]; show 1 + f.length<=sizeLine; (first|lia|omega),fun e=>?_,fun ne p hp=>?_⟩⟩
    ·have e':f=[]:=by simpa using e
     subst e'
     exact go _ T1 (same_upd hT1) upd_same
    ·exact go _ p ((same_upd hT1).trans (same_upd hp)) upd_same
   ·rintro D σ' H2 acc hD ⟨v0,rfl,sb,hDD,tp,al⟩
    refine ⟨L,D,us,acc,rfl,rfl,sb _ _ hL,hDD,by (first|lia|omega),fun p hp=>?_⟩
    have sp:=same_upd (o:=.lst (us ++ acc)) hp
    rw [hul,List.take_length] at tp
    have e1:(rs1.map (·.1)).drop (rs1.length - (i + 1))=u.1 :: (rs1.map (·.1)).drop (rs1.length - i):=by
     have h1:rs1.length - (i + 1) < (rs1.map (·.1)).length:=by rw [List.length_map]; (first|lia|omega)
     rw [List.drop_eq_getElem_cons h1,show rs1.length - (i + 1) + 1=rs1.length - i by (first|lia|omega)]
     congr 1
     rw [List.getElem_map]
     have eu':rs1[rs1.length - (i + 1)]? = some u:=by rw [show rs1.length - (i + 1)=rs1.length - 1 - i by (first|lia|omega)]; exact eu
     rw [List.getElem?_eq_getElem (by (first|lia|omega))] at eu'
     rw [Option.some.inj eu']
    have nin:u.1 ∉ (rs1.map (·.1)).drop (rs1.length - i):=by
     have:=snd.sublist (List.drop_sublist (rs1.length - (i + 1)) _)
     rw [e1] at this
     exact (List.nodup_cons.mp this).1
    refine ⟨p,us ++ acc,fs ++ fs.map (u.1 :: ·),_,_,rfl,(sa.trans sb).trans sp,upd_same,((tU.keep fun b ys z=>sb _ _ z).app tp).keep (fun b ys z=>sp _ _ z),?_,?_⟩
    ·rw [e1]
     exact Subs.step nin sub
    ·rw [List.length_append,List.length_map,fl,Nat.pow_succ]
     (first|lia|omega)
  ·rintro σ H' ⟨L,us,fs,v2,v3,rfl,sa,hL,tU,sub,fl⟩
   rw [ul,Nat.sub_self,List.drop_zero] at sub
   rw [ul] at fl
   have f1024:fs.length<=1024:=by rw [fl]; exact Nat.le_trans (Nat.pow_le_pow_right (by decide) sl) (by decide)
   have hul:=tU.len
   have hc':=sa _ _ hc
   refine ⟨_,rfl,L,rfl,⟨_,SqL.of hL⟩,?_⟩
   refine read_filter over_list (xs:=us) (fun D i σ' H2 acc=>∃ v0:Option V,σ'=[v0,some (.ref c)]/\Same H' H2/\H2 D=some (.lst acc)/\Tups H2 acc ((fs.take i).filter fun f=>decide (0 < f.length) && limB x f.length)/\acc.length<=i)
    (by (first|lia|omega)) (fun D hD=>⟨_,rfl,same_upd hD,upd_same,.nil,Nat.le_refl _⟩) (fun D i σ' H2 acc hD ⟨v0,_,sb,hDD,_,al⟩=>⟨SqL.of (sb _ _ hL),hDD,al⟩) ?_ ?_
   ·rintro D i σ' H2 acc x' B N hD ex ⟨v0,rfl,sb,hDD,tp,al⟩ hB hN
    obtain ⟨tf,f,rfl,ef,htf⟩:=tU.get ex
    have htf2:=sb _ _ htf
    have yes:(decide (0 < f.length) && limB x f.length)=true->B [some (.ref tf),some (.ref c)] (.ref tf) H2:=fun z=>by
     refine hB _ _ _ hDD ⟨_,rfl,fun b o' z=>by rw [upd_ne (ne_of_none z hD)]; exact sb _ _ z,upd_same,?_,by rw [List.length_append]; simp; (first|lia|omega)⟩
     rw [List.take_add_one,ef,List.filter_append]
     simp only [Option.toList,List.filter_cons,z,if_true,List.filter_nil]
     refine (tp.app (.cons htf2 .nil)).keep fun b ys z=>?_
     rw [upd_ne (ne_of z hDD (fun q=>by cases q))]
     exact z
    have no:(decide (0 < f.length) && limB x f.length)=false->N [some (.ref tf),some (.ref c)] H2:=fun z=>by
     refine hN _ _ ⟨_,rfl,sb,hDD,?_,by (first|lia|omega)⟩
     rw [List.take_add_one,ef,List.filter_append]
     simp only [Option.toList,List.filter_cons,z,Bool.false_eq_true,if_false,List.filter_nil,List.append_nil]
     exact tp
    refine ⟨_,rfl,tf,_,rfl,.inr (SqT.of htf2),_,_,rfl,rfl,_,rfl,?_⟩
    rw [List.length_map]
    refine ite2 (fun z1=>?_) (fun z1=>?_)
    ·have z1':0 < f.length:=by have:=of_decide_eq_true z1; (first|lia|omega)
     refine ⟨_,rfl,c,_,_,_,rfl,rfl,SqT.of (sb _ _ hc'),rfl,_,rfl,?_⟩
     rcases lim with ⟨rfl,_⟩ | ⟨lm,rfl,_,lm1,lm2⟩
     ·refine ite2 (fun _=>?_) (fun z=>by simp at z)
      refine ite2 (fun _=>?_) (fun z=>absurd z (by simp))
      exact ⟨_,rfl,yes (by rw [decide_eq_true z1']; rfl)⟩
     ·refine ite2 (fun z=>by simp at z) (fun _=>?_)
      refine ⟨_,rfl,tf,_,rfl,.inr (SqT.of htf2),_,rfl,c,_,_,_,rfl,rfl,SqT.of (sb _ _ hc'),rfl,_,_,rfl,rfl,_,rfl,?_⟩
      rw [List.length_map]
      refine ite2 (fun z=>?_) (fun z=>?_)
      ·exact ⟨_,rfl,yes (by rw [decide_eq_true z1']; exact z)⟩
      ·exact no (by rw [decide_eq_true z1']; simpa [limB] using z)
    ·have z0:¬ ((0:Int) < f.length):=by simpa using z1
     have z1':¬ 0 < f.length:=by (first|lia|omega)
     refine ite2 (fun z=>absurd z (by simp)) (fun _=>?_)
     exact no (by rw [decide_eq_false z1']; rfl)
   ·rintro D σ' H2 acc hD ⟨v0,rfl,sb,hDD,tp,al⟩
    rw [hul,List.take_length] at tp
    refine ⟨D,acc,fun _=>true,rfl,SqL.of hDD,tp.kinds (fun f hf=>?_),fun l vs' hl pm ri=>?_⟩
    ·have:=(List.mem_filter.mp hf).2
     simp only [Bool.and_eq_true,decide_eq_true_eq] at this
     intro z
     rw [z] at this
     simp at this
    ·obtain ⟨os,po,to⟩:=Tups.perm pm tp
     have sl':=same_upd (o:=.lst vs') hl
     refine k _ l vs' os ((sa.trans sb).trans sl') ?_ upd_same (to.keep fun b ys z=>sl' _ _ z) ⟨po.nodup_iff.mpr (sub.1.sublist List.filter_sublist),?_,fun ss=>?_⟩ (by rw [po.length_eq]; exact Nat.le_trans (List.length_filter_le _ _) f1024)
     ·cases e:H l with
      | none=>rfl
      | some o=>rw [sb _ _ (sa _ _ e)] at hl; cases hl
     ·have p1:(vs'.map (keyV H2)).Pairwise (fun a b=>L2.lexLt b a=false):=List.pairwise_map.mpr ri
      rw [to.keys] at p1
      exact List.pairwise_map.mp p1
     ·rw [po.mem_iff,List.mem_filter,sub.2,Bool.and_eq_true,decide_eq_true_eq]
      constructor
      ·rintro ⟨h1,h2,h3⟩
       exact ⟨by intro z; rw [z] at h2; simp at h2,h1,h3⟩
      ·rintro ⟨h1,h2,h3⟩
       exact ⟨h2,List.length_pos_iff.mpr h1,h3⟩
end
end K11
namespace K11
open PySem L2
section
variable {P:Program} {w:World} {K:PySem.W.Frag} {mg:Str->Option Value} {base:Heap}
theorem ok_most_houses (h_len:mg "len"=none) (h_min:mg "min"=none) {f:Addr} {fd:FuncData} (F:Fun K "most_houses" "most_houses" s_most_houses f fd):FnOk P w K mg base CX0 1 f fd ["case"] spMost:=by
 refine F.ok sc_most_houses (fun vs H Q E h=>?_) (fun cdv A outer s H vs Q E hr h=>?_)
 ·obtain ⟨c,sites,x,d,rfl,_⟩:=h
  rfl
 ·obtain ⟨c,sites,x,d,rfl,cs,k⟩:=h
  have nd:=sc_most_houses.nd
  have hu:=hu_of hr
  have hu64:=hr.units
  have big:100000 < sizeLine:=by decide
  refine ⟨_,(pss_cons (ps_asg (pv 0) (pg_tupK K rfl rfl (pgs_cons (pg_name (i:=1) nd rfl (Or.inl rfl)) (pgs_cons (pg_name (i:=2) nd rfl (Or.inl rfl)) (pgs_cons (pg_name (i:=3) nd rfl (Or.inl rfl)) (pgs_cons (pg_name (i:=4) nd rfl (Or.inl rfl)) pgs_nil))))))
  (pss_one (ps_ret (pe_ifExp (pt_cmp (pc_isN (pv 4))) (pe_callB (call_len_seqK K rfl) (by rfl) h_len PySem.boot_len (pa_cons (pv 2) pa_nil)) (pe_callB (call_min2 rfl) (by rfl) h_min PyProof.Rows.boot_min (pa_cons (pv 4) (pa_cons (pe_callB (call_len_seqK K rfl) (by rfl) h_len PySem.boot_len (pa_cons (pv 2) pa_nil)) pa_nil))))))),?_⟩
  obtain ⟨mV,t2V,t1,us1,rs1,hc,ht1,hd1,rfl,snd,sl,lim⟩:=cs
  have ul:=rows_len hd1
  refine ⟨_,rfl,c,_,rfl,SqT.of hc,rfl,_,_,rfl,_,_,rfl,_,_,rfl,_,_,rfl,rfl,?_⟩
  refine ⟨_,rfl,_,rfl,?_⟩
  rcases lim with ⟨rfl,_⟩ | ⟨lm,rfl,_,lm1,lm2⟩
  ·refine ite2 (fun _=>?_) (fun z=>by simp at z)
   refine ⟨_,rfl,t1,_,rfl,.inr (SqT.of ht1),?_⟩
   refine k _ (by (first|lia|omega)) fun j hj=>?_
   rw [List.length_map] at hj
   simp only [limB,iff_true]
   (first|lia|omega)
  ·refine ite2 (fun z=>by simp at z) (fun _=>?_)
   refine ⟨_,rfl,_,rfl,t1,_,rfl,.inr (SqT.of ht1),_,_,rfl,?_⟩
   refine k _ (by split <;> (first|lia|omega)) fun j hj=>?_
   rw [List.length_map] at hj
   simp only [limB,decide_eq_true_eq]
   split <;> (first|lia|omega)
theorem ok_openings (h_len:mg "len"=none) (h_sorted:mg "sorted"=none) {fM:Addr} {fdM:FuncData} (XM:Fn K mg "most_houses" s_most_houses ["case"] fM fdM) (GM:FnOk P w K mg base CX0 1 fM fdM ["case"] spMost) {f:Addr} {fd:FuncData} (F:Fun K "openings" "openings" s_openings f fd):FnOk P w K mg base CX0 2 f fd ["case"] spAllR:=by
 refine F.ok sc_openings (fun vs H Q E h=>?_) (fun cdv A outer s H vs Q E hr h=>?_)
 ·obtain ⟨c,sites,x,d,rfl,_⟩:=h
  rfl
 ·obtain ⟨c,sites,x,d,rfl,cs,k⟩:=h
  have nd:=sc_openings.nd
  have hu:=hu_of hr
  have hu64:=hr.units
  have big:100000 < sizeLine:=by decide
  refine ⟨_,(pss_cons (ps_set (i:=1) nd rfl (Or.inr rfl) (pe_call GM (hr.mono (by decide)) (by rfl) XM.mg XM.F.kp XM.b .nil pass0 (pa_cons (pv 0) pa_nil)))
  (pss_cons (ps_set (i:=2) nd rfl (Or.inl rfl) (pe_lst (pa_cons (pe_tup pa_nil) pa_nil)))
  (pss_cons (ps_for PassesOwn.never rfl (pi_tupK K rfl (pe_ix (ix_tupK K rfl) (pv 0) pe_int (fun _ _=>rfl))) (pg_tupK K rfl rfl (pgs_cons (pg_name (i:=3) nd rfl (Or.inr rfl)) (pgs_cons (pg_name (i:=4) nd rfl (Or.inl rfl)) pgs_nil)))
  (pss_one (ps_set (i:=2) nd rfl (Or.inl rfl) (pe_op op_cat (pv 2) (pe_comp (N:=["houses","most","place"]) (σ0:=fun σ=>[none,some 1,some 3].map fun j=>j.bind fun j=>(σ[j]?).join) rfl (CompOk.caught (by rfl) (by decide +kernel) rfl (by decide +kernel) (by intro y hy; simp only [List.mem_cons,List.not_mem_nil,or_false] at hy; rcases hy with rfl | rfl <;> rfl)
   (by intro y hy e; simp only [List.mem_cons,List.not_mem_nil,or_false] at hy; rcases hy with rfl | rfl | rfl | rfl | rfl <;> first | exact ⟨_,rfl⟩ | cases e)) (fun σ _=>Carry.of [none,some 1,some 3] rfl (by
   intro i j x h1 h2
   match i,h1,h2 with
   | 0,_,h2=>cases h2
   | 1,h1,h2=>cases h1; cases h2; exact ⟨rfl,.inl rfl,.inl rfl⟩
   | 2,h1,h2=>cases h1; cases h2; exact ⟨rfl,.inl rfl,.inl rfl⟩
   | n + 3,h1,_=>cases h1)) (pi_listK K rfl (pv 2))
   (fun s2 H C fp=>⟨(pg_name (i:=0) (show (["houses","most","place"]:List Str).Nodup by decide +kernel) rfl (Or.inl rfl)),(pts_one (pt_cmpR op_lt (pe_callB (call_len_seqK K rfl) (by rfl) h_len PySem.boot_len (pa_cons (pv 0) pa_nil)) (pv 1) (nomark _))),(pe_op (op_catTA K rfl) (pv 0) (pe_tup (pa_cons (pv 2) pa_nil)))⟩))))))
  (pss_one (ps_ret (pe_callB (call_sorted_tupsK K rfl) (by rfl) h_sorted PyProof.Rows.boot_sorted (pa_cons (pe_comp (N:=["houses"]) (σ0:=fun _=>[none]) rfl (CompOk.plain (by decide +kernel) (by decide +kernel) rfl (by decide +kernel)) (fun σ _=>Carry.none _ _ _ ["houses"] σ) (pi_listK K rfl (pv 2))
   (fun s2 H C fp=>⟨(pg_name (i:=0) (show (["houses"]:List Str).Nodup by decide +kernel) rfl (Or.inl rfl)),(pts_one (pt_truthK K rfl (pv 0) (fun _=>rfl))),(pv 0)⟩)) pa_nil))))))),?_⟩
  refine ⟨_,rfl,c,sites,x,d,rfl,cs,fun mo mo0 mok=>?_⟩
  obtain ⟨mV,t2V,t1,us1,rs1,hc,ht1,hd1,rfl,snd,sl,lim⟩:=cs
  have ul:=rows_len hd1
  rw [List.length_map] at sl mok
  refine ⟨(by show 0<=sizeLine; (first|lia|omega)),fun T0 hT0=>⟨(by show 1<=sizeLine; (first|lia|omega)),fun L0 hL0=>?_⟩⟩
  have s0:=(same_upd (o:=.tup []) hT0).trans (same_upd (o:=.lst [.ref T0]) hL0)
  refine ⟨_,rfl,c,_,_,_,rfl,rfl,SqT.of (s0 _ _ hc),rfl,t1,rfl,⟨_,SqT.of (s0 _ _ ht1)⟩,?_⟩
  refine for_tupB (xs:=us1) (fun i σ H'=>∃ (L:Addr) (us:List V) (fs:List (List Str)) (v2 v3:Option V),σ=[some (.ref c),some (.int mo),some (.ref L),v2,v3]/\Same H H'/\H' L=some (.lst us)/\Tups H' us fs/\SubsM ((rs1.map (·.1)).take i) mo fs/\fs.length<=2 ^ i)
   ⟨L0,[.ref T0],[[]],_,_,rfl,s0,upd_same,.cons (by rw [upd_ne (by intro z; subst z; rw [upd_same] at hL0; cases hL0)]; exact upd_same) .nil,SubsM.nil mo0,Nat.le_refl _⟩
   (fun i σ H' _ ⟨_,_,_,_,_,_,sa,_⟩=>SqT.of (sa _ _ ht1)) ?_ ?_
  ·rintro i xx σ H' ex ⟨L,us,fs,v2,v3,rfl,sa,hL,tU,sub,fl⟩ rt bk
   obtain ⟨u,t,eu,rfl,ht⟩:=dats_row hd1 ex
   have hi:i < rs1.length:=(List.getElem?_eq_some_iff.mp eu).1
   have f512:fs.length<=512:=Nat.le_trans fl (Nat.le_trans (Nat.pow_le_pow_right (by decide) (show i<=9 by (first|lia|omega))) (by decide))
   have hul:=tU.len
   have fl10:∀ f ∈ fs,f.length<=10:=fun f hf=>by
    have:=((sub.2 f).mp hf).1.length_le
    rw [List.length_take,List.length_map] at this
    (first|lia|omega)
   refine ⟨t,_,rfl,SqT.of (sa _ _ ht),rfl,_,_,rfl,_,_,rfl,rfl,?_⟩
   refine ⟨_,rfl,_,rfl,L,rfl,⟨_,SqL.of hL⟩,?_⟩
   refine read_filter over_list (xs:=us) (fun D j σ' H2 acc=>∃ v0:Option V,σ'=[v0,some (.int mo),some (.str u.1)]/\Same H' H2/\H2 D=some (.lst acc)/\Tups H2 acc (((fs.take j).filter fun f=>decide ((f.length:Int) < mo)).map (· ++ [u.1]))/\acc.length<=j)
    (by (first|lia|omega)) (fun D hD=>⟨_,rfl,same_upd hD,upd_same,.nil,Nat.le_refl _⟩) (fun D j σ' H2 acc hD ⟨v0,_,sb,hDD,_,al⟩=>⟨SqL.of (sb _ _ hL),hDD,al⟩) ?_ ?_
   ·rintro D j σ' H2 acc x' B N hD ex' ⟨v0,rfl,sb,hDD,tp,al⟩ hB hN
    obtain ⟨tf,f,rfl,ef,htf⟩:=tU.get ex'
    have fm:=fl10 f (List.mem_of_getElem? ef)
    have htf2:=sb _ _ htf
    refine ⟨_,rfl,tf,_,rfl,.inr (SqT.of htf2),_,rfl,_,_,rfl,rfl,_,rfl,?_⟩
    rw [List.length_map]
    refine ite2 (fun z=>?_) (fun z=>?_)
    ·have go:∀ (H5:Hp) (T:Addr),Same H2 H5->H5 T=some (.tup ((f ++ [u.1]).map V.str))->B [some (.ref tf),some (.int mo),some (.str u.1)] (.ref T) H5:=fun H5 T s5 hT=>by
      refine hB _ _ _ (s5 _ _ hDD) ⟨_,rfl,fun b o' z=>by rw [upd_ne (ne_of_none z hD)]; exact s5 _ _ (sb _ _ z),upd_same,?_,by rw [List.length_append]; simp; (first|lia|omega)⟩
      rw [List.take_add_one,ef,List.filter_append,List.map_append]
      simp only [Option.toList,List.filter_cons,z,if_true,List.filter_nil,List.map_cons,List.map_nil]
      refine ((tp.keep fun b ys z=>s5 _ _ z).app (.cons hT .nil)).keep fun b ys z=>?_
      rw [upd_ne (ne_of z (s5 _ _ hDD) (fun q=>by cases q))]
      exact z
     refine ⟨_,rfl,_,rfl,(by show 1<=sizeLine; (first|lia|omega)),fun T1 hT1=>⟨tf,T1,_,_,rfl,rfl,SqT.of (same_upd hT1 _ _ htf2),SqT.of upd_same,by rw [List.length_map]; show f.length + 1<=sizeLine; (first|lia|omega),fun e=>?_,fun ne e=>?_,fun ne ne' p hp=>?_⟩⟩
     ·have e':f=[]:=by simpa using e
      subst e'
      exact go _ T1 (same_upd hT1) upd_same
     ·cases e
     ·exact go _ p ((same_upd hT1).trans (same_upd hp)) (by rw [upd_same,List.map_append]; rfl)
    ·have z':decide ((f.length:Int) < mo)=false:=by simpa using z
     refine hN _ _ ⟨_,rfl,sb,hDD,?_,by (first|lia|omega)⟩
     rw [List.take_add_one,ef,List.filter_append]
     simp only [Option.toList,List.filter_cons,z',Bool.false_eq_true,if_false,List.filter_nil,List.append_nil]
     exact tp
   ·rintro D σ' H2 acc hD ⟨v0,rfl,sb,hDD,tp,al⟩
    refine ⟨L,D,us,acc,rfl,rfl,sb _ _ hL,hDD,by (first|lia|omega),fun p hp=>?_⟩
    have sp:=same_upd (o:=.lst (us ++ acc)) hp
    rw [hul,List.take_length] at tp
    have e0:(rs1.map (·.1))[i]? = some u.1:=by rw [List.getElem?_map,eu]; rfl
    have e1:(rs1.map (·.1)).take (i + 1)=(rs1.map (·.1)).take i ++ [u.1]:=by rw [List.take_add_one,e0]; rfl
    have nin:u.1 ∉ (rs1.map (·.1)).take i:=by
     have:=snd.sublist (List.take_sublist (i + 1) _)
     rw [e1] at this
     exact fun z=>(List.nodup_append.mp this).2.2 _ z _ (by simp) rfl
    refine ⟨p,us ++ acc,_,_,_,rfl,(sa.trans sb).trans sp,upd_same,((tU.keep fun b ys z=>sb _ _ z).app tp).keep (fun b ys z=>sp _ _ z),?_,?_⟩
    ·rw [e1]
     exact SubsM.step nin sub
    ·rw [List.length_append,List.length_map,Nat.pow_succ]
     have:=List.length_filter_le (fun f=>decide ((f.length:Int) < mo)) fs
     (first|lia|omega)
  ·rintro σ H' ⟨L,us,fs,v2,v3,rfl,sa,hL,tU,sub,fl⟩
   rw [ul,show rs1.length=(rs1.map (·.1)).length by rw [List.length_map],List.take_length] at sub
   rw [ul] at fl
   have f1024:fs.length<=1024:=Nat.le_trans fl (Nat.le_trans (Nat.pow_le_pow_right (by decide) sl) (by decide))
   have hul:=tU.len
   refine ⟨_,rfl,L,rfl,⟨_,SqL.of hL⟩,?_⟩
   refine read_filter over_list (xs:=us) (fun D i σ' H2 acc=>∃ v0:Option V,σ'=[v0]/\Same H' H2/\H2 D=some (.lst acc)/\Tups H2 acc ((fs.take i).filter fun f=>!f.isEmpty)/\acc.length<=i)
    (by (first|lia|omega)) (fun D hD=>⟨_,rfl,same_upd hD,upd_same,.nil,Nat.le_refl _⟩) (fun D i σ' H2 acc hD ⟨v0,_,sb,hDD,_,al⟩=>⟨SqL.of (sb _ _ hL),hDD,al⟩) ?_ ?_
   ·rintro D i σ' H2 acc x' B N hD ex ⟨v0,rfl,sb,hDD,tp,al⟩ hB hN
    obtain ⟨tf,f,rfl,ef,htf⟩:=tU.get ex
    have htf2:=sb _ _ htf
    refine ⟨_,rfl,!f.isEmpty,.inr (.inl ⟨_,SqT.of htf2,by cases f <;> rfl⟩),?_⟩
    refine ite2 (fun z=>?_) (fun z=>?_)
    ·refine ⟨_,rfl,hB _ _ _ hDD ⟨_,rfl,fun b o' z=>by rw [upd_ne (ne_of_none z hD)]; exact sb _ _ z,upd_same,?_,by rw [List.length_append]; simp; (first|lia|omega)⟩⟩
     rw [List.take_add_one,ef,List.filter_append]
     simp only [Option.toList,List.filter_cons,z,if_true,List.filter_nil]
     refine (tp.app (.cons htf2 .nil)).keep fun b ys z=>?_
     rw [upd_ne (ne_of z hDD (fun q=>by cases q))]
     exact z
    ·have z':(!f.isEmpty)=false:=by simpa using z
     refine hN _ _ ⟨_,rfl,sb,hDD,?_,by (first|lia|omega)⟩
     rw [List.take_add_one,ef,List.filter_append]
     simp only [Option.toList,List.filter_cons,z',Bool.false_eq_true,if_false,List.filter_nil,List.append_nil]
     exact tp
   ·rintro D σ' H2 acc hD ⟨v0,rfl,sb,hDD,tp,al⟩
    rw [hul,List.take_length] at tp
    refine ⟨D,acc,fun _=>true,rfl,SqL.of hDD,tp.kinds (fun f hf=>?_),fun l vs' hl pm ri=>?_⟩
    ·have:=(List.mem_filter.mp hf).2
     intro z
     rw [z] at this
     cases this
    ·obtain ⟨os,po,to⟩:=Tups.perm pm tp
     have sl':=same_upd (o:=.lst vs') hl
     refine k _ l vs' os ((sa.trans sb).trans sl') ?_ upd_same (to.keep fun b ys z=>sl' _ _ z) ⟨po.nodup_iff.mpr (sub.1.sublist List.filter_sublist),?_,fun ss=>?_⟩ (by rw [po.length_eq]; exact Nat.le_trans (List.length_filter_le _ _) f1024)
     ·cases e:H l with
      | none=>rfl
      | some o=>rw [sb _ _ (sa _ _ e)] at hl; cases hl
     ·have p1:(vs'.map (keyV H2)).Pairwise (fun a b=>L2.lexLt b a=false):=List.pairwise_map.mpr ri
      rw [to.keys] at p1
      exact List.pairwise_map.mp p1
     ·rw [po.mem_iff,List.mem_filter,sub.2]
      constructor
      ·rintro ⟨⟨h1,h2⟩,h3⟩
       have:=h1.length_le
       rw [List.length_map] at this
       exact ⟨(by intro z; rw [z] at h3; cases h3),h1,(mok _ this).mp h2⟩
      ·rintro ⟨h1,h2,h3⟩
       have:=h2.length_le
       rw [List.length_map] at this
       exact ⟨⟨h2,(mok _ this).mpr h3⟩,by cases ss with | nil=>exact absurd rfl h1 | cons _ _=>rfl⟩
end
end K11
namespace K11
open PySem L2
structure TxtN (K:PySem.W.Frag) (mg:Str->Option Value):Prop where
 len:mg "len"=none
 isin:mg "isinstance"=none
 str:mg "str"=none
 all:mg "all"=none
 most:∃ t,mg "MOST_LETTERS"=some (.int 6 t)
section
variable {P:Program} {w:World} {K:PySem.W.Frag} {mg:Str->Option Value} {base:Heap}
theorem ok_name {f:Addr} {fd:FuncData} (T:TxtN K mg) (F:Fun K "is_name" "is_name" s_is_name f fd):FnOk P w K mg base CX0 1 f fd ["thing"] (spName K):=by
 refine F.ok sc_is_name (fun vs H Q E h=>?_) (fun cdv A outer s H vs Q E hr h=>?_)
 ·obtain ⟨x,rfl,_⟩:=h
  rfl
 ·obtain ⟨x,rfl,h⟩:=h
  obtain ⟨tk,hmost⟩:=T.most
  refine ⟨_,pss_cons (ps_if (pw_or (pt_not (pt_val (pe_callB call_isinst (by rfl) T.isin PyProof.Rows.boot_isinstance (pa_cons (pv 0) (pa_cons (pe_bltn (v:=.ty "str") (by rfl) T.str PyProof.Rows.boot_str rfl) pa_nil)))))
    (pw_or1 (pt_not (pt_chain op_le op_le pe_int (pe_callB call_len_str (by rfl) T.len PySem.boot_len (pa_cons (pv 0) pa_nil)) (pe_glob (v:=.int 6) (by rfl) hmost ⟨_,rfl⟩))))).pt
    (pss_one (ps_ret pe_bl)) pss_nil)
   (pss_one (ps_ret (pe_callB (call_all_bl rfl) (by rfl) T.all PyProof.Rows.boot_all (pa_cons
    (pe_comp (N:=["letter"]) (σ0:=fun _=>[none]) rfl (CompOk.plain (by decide +kernel) (by decide +kernel) rfl (by decide +kernel)) (fun σ _=>Carry.none _ _ _ ["letter"] σ) (pi_str (pv 0))
     (fun s2 H C fp=>⟨pg_name (i:=0) (show (["letter"]:List Str).Nodup by decide +kernel) rfl (Or.inl rfl),pts_nil,pe_chain op_le_str op_le_str pe_str (pv 0) pe_str⟩)) pa_nil)))),?_⟩
  rcases h with ⟨t,rfl,ht,k⟩ | ⟨⟨ty,h1,h2⟩,k⟩
  ·refine ⟨_,rfl,_,"str",_,_,rfl,TyOf.str t,rfl,_,rfl,?_⟩
   refine iteF ?_
   refine ⟨_,rfl,t,rfl,Nat.le_trans ht (by decide),_,_,rfl,rfl,_,rfl,?_⟩
   have last:∀ (h1:1<=t.length) (h2:t.length<=6),tComp (iStr (tVar 0)) (gName 0) tYes (tChain (fun x y H Q=>∃ i j,x=.str i/\y=.str j/\Q (.bl (!(decide (j.cps.toList < i.cps.toList)))) H) (fun x y H Q=>∃ i j,x=.str i/\y=.str j/\Q (.bl (!(decide (j.cps.toList < i.cps.toList)))) H) (tC (.str "a")) (tVar 0) (tC (.str "z"))) (fun _=>[none]) [some (V.str t)] H
     (fun x H1=>∃ (p:Addr) (bs:List Bool),[x]=[V.ref p]/\SqL K H1 p (bs.map V.bl)/\Q (.bl (bs.all id)) H1):=by
    intro h1 h2
    refine ⟨_,rfl,t,rfl,fun D hD=>⟨fun i m σ' H'=>m=t.cps.size - i/\i<=t.cps.size/\(∃ v,σ'=[v])/\H'=upd H D (.lst ((t.cps.toList.take i).map fun c=>V.bl (lowc c))),⟨_,rfl,Nat.zero_le _,⟨_,rfl⟩,rfl⟩,?_⟩⟩
    rintro i m σ' H' ⟨rfl,hi,⟨v,rfl⟩,rfl⟩
    by_cases hlt:i < t.cps.size
    ·refine .inr ⟨hlt,?_⟩
     rintro x H2 ⟨rfl,c,hc,rfl⟩
     have hc':t.cps.toList[i]? = some c:=by simpa using hc
     have step:∀ b,b=lowc c->∃ acc,(upd H D (.lst ((t.cps.toList.take i).map fun c=>V.bl (lowc c)))) D=some (.lst acc)/\acc.length < sizeLine/\∃ m',m' < t.cps.size - i/\(m'=t.cps.size - (i + 1)/\i + 1<=t.cps.size/\(∃ v,[some (V.str ⟨#[c]⟩)]=[v]) /\
       upd (upd H D (.lst ((t.cps.toList.take i).map fun c=>V.bl (lowc c)))) D (.lst (acc ++ [V.bl b]))=upd H D (.lst ((t.cps.toList.take (i + 1)).map fun c=>V.bl (lowc c)))):=by
      rintro b rfl
      refine ⟨_,upd_same,?_,_,?_,rfl,hlt,⟨_,rfl⟩,?_⟩
      ·rw [List.length_map,List.length_take]
       have:t.length=t.cps.size:=rfl
       have:1000 < sizeLine:=by decide
       (first|lia|omega)
      ·(first|lia|omega)
      ·rw [upd_upd,take_succ_map _ _ _ _ hc']
     refine ⟨_,rfl,_,_,rfl,rfl,_,rfl,?_⟩
     rw [leA]
     refine ite2 (fun ha=>?_) (fun ha=>?_)
     ·refine ⟨_,_,rfl,rfl,?_⟩
      rw [leZ]
      exact step _ (by unfold lowc; rw [ha]; rfl)
     ·exact step _ (by unfold lowc; rw [Bool.not_eq_true] at ha; rw [ha]; rfl)
    ·have e:i=t.cps.size:=by (first|lia|omega)
     subst e
     refine .inl ⟨Nat.le_refl _,D,t.cps.toList.map lowc,rfl,.inl (.inl ?_),?_⟩
     ·rw [upd_same,List.take_of_length_le (by simp),List.map_map]
      rfl
     ·have e2:(t.cps.toList.map lowc).all id=nameB t:=by
       unfold nameB
       rw [List.all_map,decide_eq_true h1,decide_eq_true h2]
       rfl
      rw [e2]
      exact k _ (same_upd hD)
   refine ite2 (fun h1=>?_) (fun h1=>?_)
   ·refine ⟨_,_,rfl,rfl,_,rfl,?_⟩
    rw [decide_eq_true_eq] at h1
    refine ite2 (fun h2=>?_) (fun h2=>?_)
    ·have e:nameB t=false:=by
      unfold nameB
      have:¬ t.length<=6:=by
       intro z
       rw [decide_eq_true (show ((t.length:Nat):Int)<=6 by (first|lia|omega))] at h2
       cases h2
      rw [decide_eq_false this,Bool.and_false,Bool.false_and]
     rw [<-e]
     exact k _ (Same.refl _)
    ·refine last (by (first|lia|omega)) ?_
     by_cases z:t.length<=6
     ·exact z
     ·rw [decide_eq_false (show ¬ ((t.length:Nat):Int)<=6 by (first|lia|omega))] at h2
      exact absurd rfl h2
   ·refine ⟨_,rfl,?_⟩
    refine iteT ?_
    have e:nameB t=false:=by
     unfold nameB
     rw [decide_eq_true_eq] at h1
     rw [decide_eq_false (show ¬ 1<=t.length by (first|lia|omega)),Bool.false_and,Bool.false_and]
    show Q (.bl false) H
    rw [<-e]
    exact k _ (Same.refl _)
  ·refine ⟨_,rfl,_,"str",_,_,rfl,h1,h2,_,rfl,?_⟩
   exact k
end
end K11
namespace K11
open PySem L2
section
variable {P:Program} {w:World} {K:PySem.W.Frag} {mg:Str->Option Value} {base:Heap}
theorem ok_are_rising (h_all:mg "all"=none) (h_list:mg "list"=none) (h_sorted:mg "sorted"=none) (h_set:mg "set"=none) {fN:Addr} {fdN:FuncData} (XN:Fn K mg "is_name" s_is_name ["thing"] fN fdN) (GN:FnOk P w K mg base CX0 1 fN fdN ["thing"] (spName K)) {f:Addr} {fd:FuncData} (F:Fun K "are_rising" "are_rising" s_are_rising f fd):FnOk P w K mg base CX0 2 f fd ["things"] (spRising K):=by
 refine F.ok sc_are_rising (fun vs H Q E h=>?_) (fun cdv A outer s H vs Q E hr h=>?_)
 ·obtain ⟨t,xs,ds,rfl,_⟩:=h
  rfl
 ·obtain ⟨t,xs,ds,rfl,ht,dx,short,few,k⟩:=h
  have nd:=sc_are_rising.nd
  have hu:=hu_of hr
  have hu64:=hr.units
  have big:100000 < sizeLine:=by decide
  refine ⟨_,(pss_one (ps_ret (pe_and (pe_callB (call_all_bl rfl) (by rfl) h_all PyProof.Rows.boot_all (pa_cons (pe_comp (N:=["thing"]) (σ0:=fun _=>[none]) rfl (CompOk.plain (by decide +kernel) (by decide +kernel) rfl (by decide +kernel)) (fun σ _=>Carry.none _ _ _ ["thing"] σ) (pi_seq (pv 0))
   (fun s2 H C fp=>⟨pg_name (i:=0) (show (["thing"]:List Str).Nodup by decide +kernel) rfl (Or.inl rfl),pts_nil,(pe_call GN (hr.mono (by decide)) (by rfl) XN.mg XN.F.kp XN.b .nil pass0 (pa_cons (pv 0) pa_nil))⟩)) pa_nil))
   (pe_one (pe_cmpR (op_eq_dat hu64) (pe_callTy call_list_of (by rfl) h_list PyProof.Rows.boot_list (pa_cons (pv 0) pa_nil)) (pe_callB (call_sorted_set rfl) (by rfl) h_sorted PyProof.Rows.boot_sorted (pa_cons (pe_callTy (call_set_of K rfl rfl) (by rfl) h_set PyProof.Rows.boot_set (pa_cons (pv 0) pa_nil)) pa_nil)) (nomark _)))))),?_⟩
  have seq:∀ H',Same H H'->SqL K H' t xs\/SqT K H' t xs:=fun H' sa=>ht.imp (fun z=>SqL.of (sa _ _ z)) (fun z=>SqT.of (sa _ _ z))
  have dl:=dx.len
  refine ⟨_,rfl,t,rfl,?_⟩
  rcases ht with ht | ht
  ·refine .inl ⟨⟨_,SqL.of ht⟩,read_map over_list (xs:=xs) (fun D i σ H' acc=>∃ v0:Option V,σ=[v0]/\Same H H'/\H' D=some (.lst acc)/\acc=((ds.take i).map nameD).map V.bl/\acc.length=i)
    (by (first|lia|omega)) (fun D hD=>⟨_,rfl,same_upd hD,upd_same,rfl,rfl⟩) (fun D i σ H' acc hD ⟨v0,_,sa,hDD,_,al⟩=>⟨SqL.of (sa _ _ ht),hDD,al⟩) ?_ ?_⟩
   ·rintro D i σ H' acc x B hD ex ⟨v0,rfl,sa,hDD,rfl,al⟩ hB
    obtain ⟨d,ed,hd⟩:=dx.at ex
    have hd':=hd.same sa
    have step:∀ H5,Same H' H5->B [some x] (.bl (nameD d)) H5:=fun H5 s5=>by
     refine hB _ _ _ (s5 _ _ hDD) ⟨_,rfl,fun b o e=>?_,upd_same,?_,by rw [List.length_append,al]; rfl⟩
     ·rw [upd_ne (ne_of_none e hD)]
      exact s5 _ _ (sa _ _ e)
     ·rw [List.take_add_one,ed,List.map_append,List.map_append]
      rfl
    refine ⟨_,rfl,x,rfl,?_⟩
    cases d with
    | str y=>
     cases hd
     exact .inl ⟨y,rfl,short y (List.mem_of_getElem? ed),step⟩
    | _=>exact .inr ⟨hd'.notStr (fun s=>by intro z; cases z),step _ (Same.refl _)⟩
   ·rintro D σ H' acc hD ⟨v0,rfl,sa,hDD,rfl,al⟩
    rw [dl,List.take_length] at hDD
    refine ⟨D,ds.map nameD,rfl,SqL.of hDD,_,rfl,?_⟩
    refine ite2 (fun z=>?_) (fun z=>?_)
    ·obtain ⟨ss,rfl,hn⟩:=names_all z
     obtain rfl:=dx.txt
     rw [List.length_map] at few
     refine ⟨_,rfl,t,_,rfl,seq _ sa,fun l hl=>?_⟩
     have s1:=same_upd (o:=.lst (ss.map V.str)) hl
     refine ⟨_,rfl,t,ss,rfl,seq _ (sa.trans s1),by (first|lia|omega),fun D2 hD2=>⟨D2,ss,rfl,upd_same,by (first|lia|omega),fun l2 ss' hl2 nd' mem' srt=>?_⟩⟩
     have s2:=same_upd (o:=setS P w D2 ss) hD2
     have s3:=same_upd (o:=.lst (ss'.map V.str)) hl2
     refine ⟨_,_,.lst (s3 _ _ (s2 _ _ upd_same)) (dats_strs _ ss),.lst upd_same (dats_strs _ ss'),by simp only [PyData.canLay0]; exact lay_strs hn,by simp only [PyData.canLay0]; exact lay_strs (fun s hs=>hn s ((mem' s).mp hs)),?_,?_⟩
     ·simp only [PyData.depth,depth_strs]
      decide
     ·refine k _ _ (sa.trans (s1.trans (s2.trans s3))) ?_
      rw [eqv_list]
      refine ⟨fun e=>⟨ss,rfl,hn,(rising_iff nd' mem' srt).mp (str_inj e)⟩,?_⟩
      rintro ⟨s5,e5,_,r5⟩
      obtain rfl:=str_inj e5
      rw [(rising_iff nd' mem' srt).mpr r5]
    ·refine k _ _ sa ⟨fun q=>absurd q (by decide),fun ⟨ss,e,hn,_⟩=>?_⟩
     rw [e] at z
     exact absurd (all_names hn) z
  ·refine .inr ⟨⟨_,SqT.of ht⟩,read_map over_tup (xs:=xs) (fun D i σ H' acc=>∃ v0:Option V,σ=[v0]/\Same H H'/\H' D=some (.lst acc)/\acc=((ds.take i).map nameD).map V.bl/\acc.length=i)
    (by (first|lia|omega)) (fun D hD=>⟨_,rfl,same_upd hD,upd_same,rfl,rfl⟩) (fun D i σ H' acc hD ⟨v0,_,sa,hDD,_,al⟩=>⟨SqT.of (sa _ _ ht),hDD,al⟩) ?_ ?_⟩
   ·rintro D i σ H' acc x B hD ex ⟨v0,rfl,sa,hDD,rfl,al⟩ hB
    obtain ⟨d,ed,hd⟩:=dx.at ex
    have hd':=hd.same sa
    have step:∀ H5,Same H' H5->B [some x] (.bl (nameD d)) H5:=fun H5 s5=>by
     refine hB _ _ _ (s5 _ _ hDD) ⟨_,rfl,fun b o e=>?_,upd_same,?_,by rw [List.length_append,al]; rfl⟩
     ·rw [upd_ne (ne_of_none e hD)]
      exact s5 _ _ (sa _ _ e)
     ·rw [List.take_add_one,ed,List.map_append,List.map_append]
      rfl
    refine ⟨_,rfl,x,rfl,?_⟩
    cases d with
    | str y=>
     cases hd
     exact .inl ⟨y,rfl,short y (List.mem_of_getElem? ed),step⟩
    | _=>exact .inr ⟨hd'.notStr (fun s=>by intro z; cases z),step _ (Same.refl _)⟩
   ·rintro D σ H' acc hD ⟨v0,rfl,sa,hDD,rfl,al⟩
    rw [dl,List.take_length] at hDD
    refine ⟨D,ds.map nameD,rfl,SqL.of hDD,_,rfl,?_⟩
    refine ite2 (fun z=>?_) (fun z=>?_)
    ·obtain ⟨ss,rfl,hn⟩:=names_all z
     obtain rfl:=dx.txt
     rw [List.length_map] at few
     refine ⟨_,rfl,t,_,rfl,seq _ sa,fun l hl=>?_⟩
     have s1:=same_upd (o:=.lst (ss.map V.str)) hl
     refine ⟨_,rfl,t,ss,rfl,seq _ (sa.trans s1),by (first|lia|omega),fun D2 hD2=>⟨D2,ss,rfl,upd_same,by (first|lia|omega),fun l2 ss' hl2 nd' mem' srt=>?_⟩⟩
     have s2:=same_upd (o:=setS P w D2 ss) hD2
     have s3:=same_upd (o:=.lst (ss'.map V.str)) hl2
     refine ⟨_,_,.lst (s3 _ _ (s2 _ _ upd_same)) (dats_strs _ ss),.lst upd_same (dats_strs _ ss'),by simp only [PyData.canLay0]; exact lay_strs hn,by simp only [PyData.canLay0]; exact lay_strs (fun s hs=>hn s ((mem' s).mp hs)),?_,?_⟩
     ·simp only [PyData.depth,depth_strs]
      decide
     ·refine k _ _ (sa.trans (s1.trans (s2.trans s3))) ?_
      rw [eqv_list]
      refine ⟨fun e=>⟨ss,rfl,hn,(rising_iff nd' mem' srt).mp (str_inj e)⟩,?_⟩
      rintro ⟨s5,e5,_,r5⟩
      obtain rfl:=str_inj e5
      rw [(rising_iff nd' mem' srt).mpr r5]
    ·refine k _ _ sa ⟨fun q=>absurd q (by decide),fun ⟨ss,e,hn,_⟩=>?_⟩
     rw [e] at z
     exact absurd (all_names hn) z
end
end K11
namespace K11
open PySem L2
section
variable {P:Program} {w:World} {K:PySem.W.Frag} {mg:Str->Option Value} {base:Heap}
theorem ok_is_opening (h_all:mg "all"=none) (h_dict:mg "dict"=none) (h_isinstance:mg "isinstance"=none) (h_len:mg "len"=none) (h_tuple:mg "tuple"=none) {fM fR:Addr} {fdM fdR:FuncData} (XM:Fn K mg "most_houses" s_most_houses ["case"] fM fdM) (GM:FnOk P w K mg base CX0 1 fM fdM ["case"] spMost) (XR:Fn K mg "are_rising" s_are_rising ["things"] fR fdR) (GR:FnOk P w K mg base CX0 2 fR fdR ["things"] (spRising K)) {f:Addr} {fd:FuncData} (F:Fun K "is_opening" "is_opening" s_is_opening f fd):FnOk P w K mg base CX0 3 f fd ["case","thing"] (spIsOp K):=by
 refine F.ok sc_is_opening (fun vs H Q E h=>?_) (fun cdv A outer s H vs Q E hr h=>?_)
 ·obtain ⟨c,sites,x,d,v,rfl,_⟩:=h
  rfl
 ·obtain ⟨c,sites,x,d,v,rfl,cs,rise,names,k⟩:=h
  have nd:=sc_is_opening.nd
  have hu:=hu_of hr
  have hu64:=hr.units
  have big:1000 < sizeLine:=by decide
  refine ⟨_,(pss_cons (ps_if (pw_or (pt_not (pt_val (pe_callB call_isinst (by rfl) h_isinstance PyProof.Rows.boot_isinstance (pa_cons (pv 1) (pa_cons (pe_bltn (v:=.ty "tuple") (by rfl) h_tuple PyProof.Rows.boot_tuple rfl) pa_nil))))) (pw_or1 (pt_not (pt_chain op_le op_le pe_int (pe_callB call_len_seq (by rfl) h_len PySem.boot_len (pa_cons (pv 1) pa_nil)) (pe_call GM (hr.mono (by decide)) (by rfl) XM.mg XM.F.kp XM.b .nil pass0 (pa_cons (pv 0) pa_nil)))))).pt
  (pss_one (ps_ret pe_bl))
  pss_nil)
  (pss_cons (ps_set (i:=2) nd rfl (Or.inr rfl) (pe_callTy (call_dict_pairsT rfl) (by rfl) h_dict PyProof.Rows.boot_dict (pa_cons (pe_ix ix_tup (pv 0) pe_int (fun _ _=>rfl)) pa_nil)))
  (pss_one (ps_ret (pe_and (pe_call GR (hr.mono (by decide)) (by rfl) XR.mg XR.F.kp XR.b .nil pass0 (pa_cons (pv 1) pa_nil)) (pe_one (pe_callB (call_all_bl rfl) (by rfl) h_all PyProof.Rows.boot_all (pa_cons (pe_comp (N:=["place","sites"]) (σ0:=fun σ=>[none,some 2].map fun j=>j.bind fun j=>(σ[j]?).join) rfl (CompOk.caught (by rfl) (by decide +kernel) rfl (by decide +kernel) (by intro y hy; simp only [List.mem_cons,List.not_mem_nil,or_false] at hy; rcases hy with rfl <;> rfl)
   (by intro y hy e; simp only [List.mem_cons,List.not_mem_nil,or_false] at hy; rcases hy with rfl | rfl | rfl <;> first | exact ⟨_,rfl⟩ | cases e)) (fun σ _=>Carry.of [none,some 2] rfl (by
   intro i j x h1 h2
   match i,h1,h2 with
   | 0,_,h2=>cases h2
   | 1,h1,h2=>cases h1; cases h2; exact ⟨rfl,.inl rfl,.inl rfl⟩
   | n + 2,h1,_=>cases h1)) (pi_tup (pv 1))
   (fun s2 H C fp=>⟨(pg_name (i:=0) (show (["place","sites"]:List Str).Nodup by decide +kernel) rfl (Or.inl rfl)),pts_nil,(pe_cmp (pc_din hu (pv 0) (pv 1)))⟩)) pa_nil)))))))),?_⟩
  rcases k with ⟨ds,⟨t,xs,rfl,ht,dx,short,few⟩,k⟩ | ⟨⟨ty,t1,t2⟩,k⟩
  ·refine ⟨_,rfl,_,"tuple",_,_,rfl,.tup ht,rfl,_,rfl,?_⟩
   refine iteF ?_
   refine ⟨_,rfl,t,_,rfl,.inr (SqT.of ht),_,_,rfl,rfl,_,rfl,?_⟩
   have dl:=dx.len
   refine ite2 (fun z1=>?_) (fun z1=>?_)
   ·refine ⟨_,rfl,c,sites,x,d,rfl,cs,fun mo mo0 mok=>?_⟩
    obtain ⟨mV,t2V,t1,us1,rs1,hc,ht1,hd1,rfl,snd,sl,lim⟩:=cs
    have ul:=rows_len hd1
    rw [List.length_map] at sl mok
    refine ⟨_,_,rfl,rfl,_,rfl,?_⟩
    refine ite2 (fun z2=>?_) (fun z2=>?_)
    ·refine k _ _ (Same.refl _) ⟨fun q=>absurd q (by decide),fun ⟨ss,e,_,sub,lb⟩=>?_⟩
     have l1:=sub.length_le
     rw [List.length_map] at l1
     have:=(mok _ l1).mpr lb
     rw [dl,e,List.length_map] at z2
     simp [this] at z2
    ·have z3:(xs.length:Int)<=mo:=by simpa using z2
     refine ⟨_,rfl,c,_,_,_,rfl,rfl,SqT.of hc,rfl,t1,us1,rowP rs1,rfl,ht1,by unfold rowP; rw [List.length_map]; exact ul,rowP_at hd1,by rw [rowP_keys]; exact snd,by unfold rowP; rw [List.length_map]; (first|lia|omega),fun B hB=>?_⟩
     have s1:=same_upd (o:=.dK (sK (rowP rs1))) hB
     have hBB:(upd H B (.dK (sK (rowP rs1)))) B=some (.dK (sK (rowP rs1))):=upd_same
     generalize upd H B (.dK (sK (rowP rs1)))=H1 at s1 hBB
     refine ⟨_,rfl,t,xs,ds,rfl,.inr (s1 _ _ ht),dx.mono (fun a o e _=>s1 a o e),short,few,fun b H2 s2 hb=>⟨_,rfl,?_⟩⟩
     refine ite2 (fun z=>?_) (fun z=>?_)
     ·obtain ⟨ss,rfl,hn,ri⟩:=hb.mp z
      obtain rfl:=dx.txt
      rw [List.length_map] at few z1 z3
      have ne:ss ≠ []:=fun e=>by subst e; simp at z1
      have hB2:=s2 _ _ hBB
      have ht2:=s2 _ _ (s1 _ _ ht)
      refine ⟨_,rfl,t,rfl,⟨_,SqT.of ht2⟩,?_⟩
      refine read_map over_tup (xs:=ss.map V.str) (fun D i σ H' acc=>∃ v0:Option V,σ=[v0,some (.ref B)]/\Same H2 H'/\H' D=some (.lst acc)/\acc=((ss.take i).map fun y=>decide (y ∈ rs1.map (·.1))).map V.bl/\acc.length=i)
       (by rw [List.length_map]; (first|lia|omega)) (fun D hD=>⟨_,rfl,same_upd hD,upd_same,rfl,rfl⟩) (fun D i σ H' acc hD ⟨v0,_,sa,hDD,_,al⟩=>⟨SqT.of (sa _ _ ht2),hDD,al⟩) ?_ ?_
      ·rintro D i σ H' acc x' Bk hD ex ⟨v0,rfl,sa,hDD,rfl,al⟩ hBk
       obtain ⟨y,ey,rfl⟩:∃ y,ss[i]? = some y/\x'=.str y:=by
        rw [List.getElem?_map] at ex
        cases q:ss[i]? with
        | none=>rw [q] at ex; cases ex
        | some y=>rw [q] at ex; exact ⟨y,rfl,(Option.some.inj ex).symm⟩
       refine ⟨_,rfl,_,rfl,B,_,rfl,DGet.k (k:=Sum.inr y) (sa _ _ hB2),?_⟩
       rw [sK_is,rowP_keys]
       refine hBk _ _ _ hDD ⟨_,rfl,fun b o e=>?_,upd_same,?_,by rw [List.length_append,al]; rfl⟩
       ·rw [upd_ne (ne_of_none e hD)]
        exact sa _ _ e
       ·rw [List.take_add_one,ey,List.map_append,List.map_append]
        rfl
      ·rintro D σ H' acc hD ⟨v0,rfl,sa,hDD,rfl,al⟩
       rw [List.length_map,List.take_length] at hDD
       refine ⟨D,_,rfl,SqL.of hDD,?_⟩
       refine k _ _ (s1.trans (s2.trans sa)) ?_
       rw [List.all_map,List.all_eq_true]
       constructor
       ·intro h
        have sub:=rising_sub ri rise fun y hy=>by simpa using h y hy
        have l1:=sub.length_le
        rw [List.length_map] at l1
        exact ⟨ss,rfl,ne,sub,(mok _ l1).mp z3⟩
       ·rintro ⟨s5,e5,_,sub,_⟩ y hy
        rw [str_inj e5] at hy
        simpa using sub.subset hy
     ·refine k _ _ (s1.trans s2) ⟨fun q=>absurd q (by decide),fun ⟨ss,e,_,sub,_⟩=>absurd (hb.mpr ⟨ss,e,fun y hy=>names y (sub.subset hy),rise.sub sub⟩) z⟩
   ·refine ⟨_,rfl,?_⟩
    refine iteT ?_
    refine k _ _ (Same.refl _) ⟨fun q=>absurd q (by decide),fun ⟨ss,e,ne,_⟩=>?_⟩
    rw [dl,e,List.length_map,decide_eq_true_eq] at z1
    exact absurd (List.length_eq_zero_iff.mp (by (first|lia|omega))) ne
  ·refine ⟨_,rfl,_,"tuple",_,_,rfl,t1,t2,_,rfl,?_⟩
   exact k _ (Same.refl _)
end
end K11
namespace K11
open PySem L2
section
variable {P:Program} {w:World} {K:PySem.W.Frag} {mg:Str->Option Value} {base:Heap}
theorem ok_law_is (h_bool:mg "bool"=none) (h_isinstance:mg "isinstance"=none) (h_tuple:mg "tuple"=none) {fO:Addr} {fdO:FuncData} (XO:Fn K mg "is_opening" s_is_opening ["case","thing"] fO fdO) (GO:FnOk P w K mg base CX0 3 fO fdO ["case","thing"] (spIsOp K)) {f:Addr} {fd:FuncData} (F:Fun K "_law_is" "_law_is" s_law_is f fd):FnOk P w K mg base CX0 4 f fd ["_law_case_here","_law_thing","_law_every"] (spIsIt K):=by
 refine F.ok sc_law_is (fun vs H Q E h=>?_) (fun cdv A outer s H vs Q E hr h=>?_)
 ·obtain ⟨c,e,sites,x,d,v,us,os,rfl,_⟩:=h
  rfl
 ·obtain ⟨c,e,sites,x,d,v,us,os,rfl,cs,rise,names,he,tU,op,hv,k⟩:=h
  have nd:=sc_law_is.nd
  have hu:=hu_of hr
  have hu64:=hr.units
  have big:1000 < sizeLine:=by decide
  refine ⟨_,(pss_cons (ps_set (i:=3) nd rfl (Or.inl rfl) (pe_call GO (hr.mono (by decide)) (by rfl) XO.mg XO.F.kp XO.b .nil pass0 (pa_cons (pv 0) (pa_cons (pv 1) pa_nil))))
  (pss_one (ps_ret (pe_and (pe_callB call_isinst (by rfl) h_isinstance PyProof.Rows.boot_isinstance (pa_cons (pv 3) (pa_cons (pe_bltn (v:=.ty "bool") (by rfl) h_bool PyProof.Rows.boot_bool rfl) pa_nil))) (pe_one (pe_cmpR op_eq (pv 3) (pe_and (pe_callB call_isinst (by rfl) h_isinstance PyProof.Rows.boot_isinstance (pa_cons (pv 1) (pa_cons (pe_bltn (v:=.ty "tuple") (by rfl) h_tuple PyProof.Rows.boot_tuple rfl) pa_nil))) (pe_one (pe_cmpR (op_in_dat hu64) (pv 1) (pv 2) (by rfl)))) (nomark _))))))),?_⟩
  refine ⟨_,rfl,_,rfl,c,sites,x,d,v,rfl,cs,rise,names,?_⟩
  rcases hv with ⟨ds,tv,lay,dep⟩ | nt
  ·refine .inl ⟨ds,tv,fun b H1 s1 hb=>?_⟩
   refine ⟨_,rfl,_,"bool",_,_,rfl,.bl b,rfl,_,rfl,?_⟩
   refine iteT ?_
   obtain ⟨t,xs,rfl,ht,dx,short,few⟩:=tv
   refine ⟨_,rfl,_,rfl,_,"tuple",_,_,rfl,.tup (s1 _ _ ht),rfl,_,rfl,?_⟩
   refine iteT ?_
   refine ⟨_,rfl,_,rfl,.tuple ds,os.map (fun f=>.tuple (f.map PyData.str)),.tup (s1 _ _ ht) (dx.mono fun a o e _=>s1 a o e),.lst (s1 _ _ he) ?_,by simp only [PyData.canLay0]; exact lay,?_,by simp only [PyData.depth]; (first|lia|omega),?_⟩
   ·exact (tU.keep fun b ys z=>s1 _ _ z).dats
   ·exact lay_tups fun f hf y hy=>names y (((op.2.2 f).mp hf).2.1.subset hy)
   ·refine ⟨rfl,?_⟩
    have e:(os.map fun f=>PyData.tuple (f.map PyData.str)).any (fun e=>PyData.eqv e (.tuple ds))=b:=by
     rw [Bool.eq_iff_iff,hb,List.any_map,List.any_eq_true]
     constructor
     ·rintro ⟨f,hf,z⟩
      have z:=(eqv_tuple f ds).mp z
      obtain ⟨h1,h2,h3⟩:=(op.2.2 f).mp hf
      exact ⟨f,z,h1,h2,h3⟩
     ·rintro ⟨f,z,h1,h2,h3⟩
      exact ⟨f,(op.2.2 f).mpr ⟨h1,h2,h3⟩,(eqv_tuple f ds).mpr z⟩
    rw [e]
    have:decide (V.bl b=V.bl b)=true:=decide_eq_true rfl
    rw [this]
    exact k _ s1
  ·refine .inr ⟨nt,fun H1 s1=>?_⟩
   refine ⟨_,rfl,_,"bool",_,_,rfl,.bl false,rfl,_,rfl,?_⟩
   refine iteT ?_
   obtain ⟨ty,t1,t2⟩:=nt
   refine ⟨_,rfl,_,rfl,_,"tuple",_,_,rfl,t1.same s1,t2,_,rfl,?_⟩
   refine iteF ?_
   refine ⟨rfl,?_⟩
   exact k _ s1
end
end K11
namespace K11
open PySem L2
section
variable {P:Program} {w:World} {K:PySem.W.Frag} {mg:Str->Option Value} {base:Heap}
def OddAt (σ:St) (H:Hp):Prop:=
 ∃ (p c t pl sl t1:Addr) (at_:Int) (other:Str) (ss sites:List Str) (xs us1:List V) (rs1:List Row) (f:Option V),σ=[some (.ref p),some (.ref c),some (.ref t),some (.int at_),some (.ref pl),some (.str other),some (.ref sl),f]/\H c=some (.tup xs)/\xs[1]? = some (.ref t1)/\H t1=some (.tup us1)/\Dats H us1 (rs1.map rowD)/\(rs1.map (·.1)).Nodup/\rs1.length<=10 /\
  H t=some (.tup (ss.map V.str))/\H sl=some (.lst (sites.map V.str))/\0<=at_/\at_ < ss.length/\ss.length<=10/\sites.length<=10/\nameB other=true/\(∀ s ∈ ss,nameB s=true)/\(∀ s ∈ sites,nameB s=true)
theorem odd_stay:Stay OddAt:=fun σ H H' ⟨p,c,t,pl,sl,t1,at_,other,ss,sites,xs,us1,rs1,f,e,h1,h2,h3,h4,h5,h6,h7,h8,r⟩ s=>
 ⟨p,c,t,pl,sl,t1,at_,other,ss,sites,xs,us1,rs1,f,e,s _ _ h1,h2,s _ _ h3,h4.mono (fun a o z _=>s a o z),h5,h6,s _ _ h7,s _ _ h8,r⟩
theorem odd_set {σ:St} {v:Option V} {H:Hp} (h:OddAt σ H):OddAt (σ.set 7 v) H:=by
 obtain ⟨p,c,t,pl,sl,t1,at_,other,ss,sites,xs,us1,rs1,f,rfl,r⟩:=h
 exact ⟨p,c,t,pl,sl,t1,at_,other,ss,sites,xs,us1,rs1,v,rfl,r⟩
theorem name_ok {s:Str} (h:nameB s=true):s.length<=100/\PyData.strOk s=true:=by
 obtain ⟨_,l,_⟩:=low_of h
 refine ⟨by (first|lia|omega),?_⟩
 have:=lay_strs (xs:=[s]) (by simpa using h)
 simpa [PyData.canLayAll0,PyData.canLay0] using this
theorem odd_rest (h_dict:mg "dict"=none) (h_list:mg "list"=none) (h_sorted:mg "sorted"=none) (h_tuple:mg "tuple"=none) {f:Addr} {cdv:Value} {A:Around} {outer:List Env} {s:Shared} {H:Hp} {E:XK} :
  ∃ tl,PSs (cxOf CX0 P w K mg base ["_law_pen_here","_law_case_here","_law_some_here","_law_at","_law_places","_law_other","_law_sites","_law_found"] "_law_odd" (defScope s_law_odd) f cdv A outer s H E).nox ((defBody s_law_odd).drop 4) tl /\
   ∀ (D:Ends) (σ:St) (H1:Hp),OddAt σ H1->(∀ (H':Hp) (l:Addr) (us:List V),Same H1 H'->H1 l=none->H' l=some (.lst us)->(∀ u ∈ us,OkT K H' u)->us.length<=60->D.rt (.ref l) H')->tl D σ H1:=by
 have nd:=sc_law_odd.nd
 obtain ⟨Φ,eΦ⟩:∃ Φ,Φ=OddAt:=⟨_,rfl⟩
 have hS:∀ σ H,Φ σ H->∃ v,σ[2]? = some (some v)/\TxS 10 H v:=by
  subst eΦ
  rintro σ H ⟨p,c,t,pl,sl,t1,at_,other,ss,sites,xs,us1,rs1,f,rfl,h1,h2,h3,h4,h5,h6,h7,h8,a0,a1,l1,l2,n1,n2,n3⟩
  exact ⟨_,rfl,t,ss,rfl,h7,fun s hs=>name_ok (n2 s hs),l1⟩
 have hO:∀ σ H,Φ σ H->∃ v,σ[5]? = some (some v)/\Sx 100 H v:=by
  subst eΦ
  rintro σ H ⟨p,c,t,pl,sl,t1,at_,other,ss,sites,xs,us1,rs1,f,rfl,h1,h2,h3,h4,h5,h6,h7,h8,a0,a1,l1,l2,n1,n2,n3⟩
  exact ⟨_,rfl,other,rfl,name_ok n1⟩
 have hL:∀ σ H,Φ σ H->∃ v,σ[6]? = some (some v)/\LxS 10 H v:=by
  subst eΦ
  rintro σ H ⟨p,c,t,pl,sl,t1,at_,other,ss,sites,xs,us1,rs1,f,rfl,h1,h2,h3,h4,h5,h6,h7,h8,a0,a1,l1,l2,n1,n2,n3⟩
  exact ⟨_,rfl,sl,sites,rfl,h8,fun s hs=>name_ok (n3 s hs),l2⟩
 have at1:∀ σ H,Φ σ H->∀ Q:VK,(∀ s,nameB s=true->Q (.str s) H)->tOp (rIxT K) (tVar 2) (tVar 3) σ H Q:=by
  subst eΦ
  rintro σ H ⟨p,c,t,pl,sl,t1,at_,other,ss,sites,xs,us1,rs1,f,rfl,h1,h2,h3,h4,h5,h6,h7,h8,a0,a1,l1,l2,n1,n2,n3⟩ Q q
  obtain ⟨j,rfl⟩:∃ j:Nat,at_=(j:Int):=⟨at_.toNat,by (first|lia|omega)⟩
  have hj:j < ss.length:=by (first|lia|omega)
  exact ⟨_,rfl,_,rfl,t,_,_,.str ss[j],rfl,rfl,SqT.of h7,atI_nat (by rw [List.getElem?_map,List.getElem?_eq_getElem hj]; rfl),q _ (n2 _ (List.getElem_mem hj))⟩
 have wAt:∀ σ H Q,tGood Φ (Sx 100) σ H Q->tOp (rIxT K) (tVar 2) (tVar 3) σ H Q:=fun σ H Q ⟨g,k⟩=>at1 σ H g Q fun s hs=>k _ _ (Same.refl _) ⟨s,rfl,name_ok hs⟩
 have wAt0:∀ σ H Q,tGood Φ (Sx 100) σ H Q->tOp (rIxT K) (tVar 2) (tC (.int 0)) σ H Q:=by
  subst eΦ
  rintro σ H Q ⟨⟨p,c,t,pl,sl,t1,at_,other,ss,sites,xs,us1,rs1,f,rfl,h1,h2,h3,h4,h5,h6,h7,h8,a0,a1,l1,l2,n1,n2,n3⟩,k⟩
  have hj:0 < ss.length:=by (first|lia|omega)
  exact ⟨_,rfl,t,_,_,.str ss[0],rfl,rfl,SqT.of h7,atI_nat (j:=0) (by rw [List.getElem?_map,List.getElem?_eq_getElem hj]; rfl),k _ _ (Same.refl _) ⟨_,rfl,name_ok (n2 _ (List.getElem_mem hj))⟩⟩
 have wPre:∀ σ H Q,tGood Φ (TxT 10) σ H Q->tSl (rSlT K) (tVar 2) tNoPart (tPart (tVar 3)) σ H Q:=by
  rintro σ H Q ⟨g,k⟩
  obtain ⟨v,hv,tx⟩:=hS σ H g
  subst eΦ
  obtain ⟨p,c,t,pl,sl,t1,at_,other,ss,sites,xs,us1,rs1,f,rfl,h1,h2,h3,h4,h5,h6,h7,h8,a0,a1,l1,l2,n1,n2,n3⟩:=g
  cases hv
  obtain ⟨t',xs',e',ht',mx,lx⟩:=tx.txt
  cases e'
  rw [h7] at ht'
  cases ht'
  refine ⟨_,rfl,_,rfl,at_,rfl,t,_,rfl,SqT.of h7,?_,fun q hq=>k _ _ (same_upd hq) ⟨q,_,rfl,upd_same,fun u hu=>OkV.stay _ _ _ (mx u (cut_mem hu)) (same_upd hq),Nat.le_trans (cutV_length _ _ _) lx⟩⟩
  rw [List.length_map]
  simp only [HT.sIx]
  rw [if_neg (by (first|lia|omega))]
  all_goals (first|lia|omega)
 have wPost:∀ σ H Q,tGood Φ (TxT 10) σ H Q->tSl (rSlT K) (tVar 2) (tPart (tOp (rI0 fun i j=>.int (i + j)) (tVar 3) (tC (.int 1)))) tNoPart σ H Q:=by
  rintro σ H Q ⟨g,k⟩
  obtain ⟨v,hv,tx⟩:=hS σ H g
  subst eΦ
  obtain ⟨p,c,t,pl,sl,t1,at_,other,ss,sites,xs,us1,rs1,f,rfl,h1,h2,h3,h4,h5,h6,h7,h8,a0,a1,l1,l2,n1,n2,n3⟩:=g
  cases hv
  obtain ⟨t',xs',e',ht',mx,lx⟩:=tx.txt
  cases e'
  rw [h7] at ht'
  cases ht'
  refine ⟨_,rfl,_,rfl,_,_,rfl,rfl,at_ + 1,rfl,t,_,rfl,SqT.of h7,?_,fun q hq=>k _ _ (same_upd hq) ⟨q,_,rfl,upd_same,fun u hu=>OkV.stay _ _ _ (mx u (cut_mem hu)) (same_upd hq),Nat.le_trans (cutV_length _ _ _) lx⟩⟩
  rw [List.length_map]
  simp only [HT.sIx]
  rw [if_neg (by (first|lia|omega))]
  all_goals (first|lia|omega)
 have wD:∀ σ H Q,tGood Φ (OkT K) σ H Q->tDNewK σ H Q:=fun σ H Q ⟨g,k⟩ p hp=>k _ _ (same_upd hp) (.inr (noTup_dict upd_same))
 have wAtA:∀ σ H Q,tGood Φ (Sx 100) σ H Q->tOp (fun x y H Q=>∃ i j,x=.str i/\y=.str j/\i.length + j.length<=sizeLine/\Q (.str (i ++ j)) H) (tOp (rIxT K) (tVar 2) (tVar 3)) (tC (.str "a")) σ H Q:=fun σ H Q ⟨g,k⟩=>at1 σ H g _ fun s hs=>by
  obtain ⟨_,l,_⟩:=low_of hs
  have e1:(Str.ofString "a").length=1:=rfl
  refine ⟨s,"a",rfl,rfl,Nat.le_trans (by (first|lia|omega)) (show 1000<=sizeLine by decide),k _ _ (Same.refl _) ⟨_,rfl,?_,?_⟩⟩
  ·have e2:(s ++ Str.ofString "a").length=s.length + 1:=by
    show (s.cps ++ (Str.ofString "a").cps).size=_
    rw [Array.size_append]
    rfl
   show (s ++ Str.ofString "a").length<=100
   (first|lia|omega)
  ·exact strOk_app (name_ok hs).2 (by decide +kernel)
 have wAtC:∀ σ H Q,tGood Φ (Sx 100) σ H Q->tSlS (tOp (rIxT K) (tVar 2) (tVar 3)) tNoPart (tPart (tUn (rU fun i=>.int (-i)) (tC (.int 1)))) σ H Q:=fun σ H Q ⟨g,k⟩=>at1 σ H g _ fun s hs=>by
  obtain ⟨_,l,_⟩:=low_of hs
  refine ⟨_,rfl,_,rfl,s,rfl,Nat.le_trans (by (first|lia|omega)) (show 1000<=sizeLine by decide),k _ _ (Same.refl _) ⟨_,rfl,?_,?_⟩⟩
  ·exact Nat.le_trans (PySem.Txt.slice_le _ _ _) (by (first|lia|omega))
  ·exact strOk_mem (name_ok hs).2 fun ch hc=>slice_mem hc
 have wL2:∀ σ H Q,tGood Φ (LxS 10) σ H Q->tSl (rSlL K) (tVar 6) tNoPart (tPart (tC (.int 2))) σ H Q:=by
  subst eΦ
  rintro σ H Q ⟨⟨p,c,t,pl,sl,t1,at_,other,ss,sites,xs,us1,rs1,f,rfl,h1,h2,h3,h4,h5,h6,h7,h8,a0,a1,l1,l2,n1,n2,n3⟩,k⟩
  refine ⟨_,rfl,_,rfl,sl,_,rfl,SqL.of h8,fun q hq=>k _ _ (same_upd hq) ⟨q,(sites.drop (HT.sIx sites.length 0 none)).take (HT.sIx sites.length sites.length (some 2) - HT.sIx sites.length 0 none),rfl,?_,fun s hs=>name_ok (n3 s (List.mem_of_mem_drop (List.mem_of_mem_take hs))),?_⟩⟩
  ·rw [upd_same]
   unfold cutV
   rw [List.length_map,List.map_take,List.map_drop]
  ·rw [List.length_take,List.length_drop]
   (first|lia|omega)
 have wDict:∀ σ H Q,tGood Φ (OkT K) σ H Q->tCB (fun xs H Q=>∃ (a:Addr) (vs:List V) (ps:List (Str × V)),xs=[.ref a]/\H a=some (.tup vs)/\vs.length=ps.length/\(∀ (i:Nat) v p,vs[i]? = some v->ps[i]? = some p->∃ t,v=.ref t/\H t=some (.tup [.str p.1,p.2]))/\(ps.map (·.1)).Nodup/\ps.length < 1000/\∀ D,H D=none->Q (.ref D) (upd H D (.dK (sK ps)))) (tCons (tOp (rIxT K) (tVar 1) (tC (.int 1))) tNil) σ H Q:=by
  subst eΦ
  rintro σ H Q ⟨⟨p,c,t,pl,sl,t1,at_,other,ss,sites,xs,us1,rs1,f,rfl,h1,h2,h3,h4,h5,h6,h7,h8,a0,a1,l1,l2,n1,n2,n3⟩,k⟩
  have ul:=rows_len h4
  exact ⟨_,rfl,c,_,_,_,rfl,rfl,SqT.of h1,atI_nat (j:=1) h2,t1,us1,rowP rs1,rfl,h3,by unfold rowP; rw [List.length_map]; exact ul,rowP_at h4,by rw [rowP_keys]; exact h5,by unfold rowP; rw [List.length_map]; (first|lia|omega),fun q hq=>k _ _ (same_upd hq) (.inr (noTup_dict upd_same))⟩
 have odd_stay:Stay Φ:=by subst eΦ; exact odd_stay
 refine ⟨_,(pss_cons (ps_set (i:=7) nd rfl (Or.inl rfl) (g_list (OkT.stay (K:=K)) (by decide) (pa_good odd_stay (OkT.stay (K:=K)) (((pe_callTy call_list_of (by rfl) h_list PyProof.Rows.boot_list (pa_cons (g_var (pv 2) hS) pa_nil)).weak (w_list _)).as fun _ _ h=>h.okT)
    (pa_good odd_stay (OkT.stay (K:=K)) ((g_back (g_var (pv 2) hS) (pe_un un_neg pe_int)).as fun _ _ h=>h.okT (by decide))
    (pa_good odd_stay (OkT.stay (K:=K)) (((g_catS odd_stay (by decide) (g_var (pv 2) hS) (g_tup1S ((pe_ix ix_tup (pv 2) (pv 3) (fun _ _=>rfl)).weak wAt))).as fun _ _ h=>h.txt).as fun _ _ h=>h.okT (by decide))
    (pa_good odd_stay (OkT.stay (K:=K)) ((((pe_callTy call_tuple_of (by rfl) h_tuple PyProof.Rows.boot_tuple (pa_cons ((pe_callB call_sorted_tupS (by rfl) h_sorted PyProof.Rows.boot_sorted (pa_cons (g_catS odd_stay (by decide) (g_var (pv 2) hS) (g_tup1S ((pe_ix ix_tup (pv 2) (pv 3) (fun _ _=>rfl)).weak wAt))) pa_nil)).weak (w_sorted (by decide))) pa_nil)).weak (w_tuple _)).as fun _ _ h=>h.txt).as fun _ _ h=>h.okT (by decide))
    (pa_good odd_stay (OkT.stay (K:=K)) ((((pe_callTy call_tuple_of (by rfl) h_tuple PyProof.Rows.boot_tuple (pa_cons (g_var (pv 6) hL) pa_nil)).weak (w_tuple _)).as fun _ _ h=>h.txt).as fun _ _ h=>h.okT (by decide))
    pa_good0)))))))
  (pss_cons (ps_set (i:=7) nd rfl (Or.inl rfl) (pe_op op_cat (pv 7) (g_list (OkT.stay (K:=K)) (by decide) (pa_good odd_stay (OkT.stay (K:=K)) ((((pe_callTy call_tuple_of (by rfl) h_tuple PyProof.Rows.boot_tuple (pa_cons ((pe_callB call_sorted_tupS (by rfl) h_sorted PyProof.Rows.boot_sorted (pa_cons (g_catS odd_stay (by decide) (g_var (pv 2) hS) (g_tup1S (g_var (pv 5) hO))) pa_nil)).weak (w_sorted (by decide))) pa_nil)).weak (w_tuple _)).as fun _ _ h=>h.txt).as fun _ _ h=>h.okT (by decide))
    (pa_good odd_stay (OkT.stay (K:=K)) ((g_cat odd_stay (by decide) (g_cat odd_stay (by decide) ((pe_slice sl_tup (pv 2) po_none (po_some (pv 3))).weak wPre) ((g_tup1S (g_var (pv 5) hO)).as fun _ _ h=>h.txt)) ((pe_slice sl_tup (pv 2) (po_some (pe_op op_add (pv 3) pe_int)) po_none).weak wPost)).as fun _ _ h=>h.okT (by decide))
    (pa_good odd_stay (OkT.stay (K:=K)) ((g_cat odd_stay (by decide) ((pe_slice sl_tup (pv 2) po_none (po_some (pv 3))).weak wPre) ((pe_slice sl_tup (pv 2) (po_some (pe_op op_add (pv 3) pe_int)) po_none).weak wPost)).as fun _ _ h=>h.okT (by decide))
    pa_good0))))))
  (pss_cons (ps_set (i:=7) nd rfl (Or.inl rfl) (pe_op op_cat (pv 7) (g_list (OkT.stay (K:=K)) (by decide) (pa_good odd_stay (OkT.stay (K:=K)) ((g_cat odd_stay (by decide) (g_cat odd_stay (by decide) ((pe_slice sl_tup (pv 2) po_none (po_some (pv 3))).weak wPre) (g_tup1 (g_dat pe_non (fun H=>.non) fun H h=>⟨_,h,rfl,Nat.zero_le _,fun s e=>by cases e⟩))) ((pe_slice sl_tup (pv 2) (po_some (pe_op op_add (pv 3) pe_int)) po_none).weak wPost)).as fun _ _ h=>h.okT (by decide))
    (pa_good odd_stay (OkT.stay (K:=K)) ((g_cat odd_stay (by decide) (g_cat odd_stay (by decide) ((pe_slice sl_tup (pv 2) po_none (po_some (pv 3))).weak wPre) (g_tup1 (g_dat pe_bl (fun H=>.bl true) fun H h=>⟨_,h,rfl,Nat.zero_le _,fun s e=>by cases e⟩))) ((pe_slice sl_tup (pv 2) (po_some (pe_op op_add (pv 3) pe_int)) po_none).weak wPost)).as fun _ _ h=>h.okT (by decide))
    (pa_good odd_stay (OkT.stay (K:=K)) ((g_tup1 ((g_var (pv 2) hS).as fun _ _ h=>h.okV)).as fun _ _ h=>h.okT (by decide))
    (pa_good odd_stay (OkT.stay (K:=K)) ((g_tup1 (((pe_callTy call_list_of (by rfl) h_list PyProof.Rows.boot_list (pa_cons (g_var (pv 2) hS) pa_nil)).weak (w_list _)).as fun _ _ h=>h.okV)).as fun _ _ h=>h.okT (by decide))
    pa_good0)))))))
  (pss_cons (ps_set (i:=7) nd rfl (Or.inl rfl) (pe_op op_cat (pv 7) (g_list (OkT.stay (K:=K)) (by decide) (pa_good odd_stay (OkT.stay (K:=K)) ((g_tup0.as fun _ _ h=>h.txt).as fun _ _ h=>h.okT (by decide))
    (pa_good odd_stay (OkT.stay (K:=K)) (g_lst0.as fun _ _ h=>h.okT)
    (pa_good odd_stay (OkT.stay (K:=K)) (g_dat pe_non (fun H=>.non) fun H h=>.inr (h.noTup fun s e=>by cases e))
    (pa_good odd_stay (OkT.stay (K:=K)) (g_dat pe_bl (fun H=>.bl true) fun H h=>.inr (h.noTup fun s e=>by cases e))
    (pa_good odd_stay (OkT.stay (K:=K)) (g_dat pe_int (fun H=>.int 0) fun H h=>.inr (h.noTup fun s e=>by cases e))
    (pa_good odd_stay (OkT.stay (K:=K)) (g_dat pe_str (fun H=>.str "") fun H h=>.inr (h.noTup fun s e=>by cases e))
    (pa_good odd_stay (OkT.stay (K:=K)) (((pe_ix ix_tup (pv 2) pe_int (fun _ _=>rfl)).weak wAt0).as fun _ _ h=>h.okT)
    (pa_good odd_stay (OkT.stay (K:=K)) ((pe_bm PySem.F.plainAttrs_str PySem.F.slot_str_join PySem.F.type_str_join mt_joinT pe_str (pa_cons (g_var (pv 2) hS) pa_nil)).weak (w_join _ (by decide)))
    (pa_good odd_stay (OkT.stay (K:=K)) (pe_dnewK.weak wD)
    (pa_good odd_stay (OkT.stay (K:=K)) (((g_tup1S ((pe_op op_add_str (pe_ix ix_tup (pv 2) (pv 3) (fun _ _=>rfl)) pe_str).weak wAtA)).as fun _ _ h=>h.txt).as fun _ _ h=>h.okT (by decide))
    (pa_good odd_stay (OkT.stay (K:=K)) (((g_tup1S ((pe_slice_str (pe_ix ix_tup (pv 2) (pv 3) (fun _ _=>rfl)) po_none (po_some (pe_un un_neg pe_int))).weak wAtC)).as fun _ _ h=>h.txt).as fun _ _ h=>h.okT (by decide))
    (pa_good odd_stay (OkT.stay (K:=K)) (((g_tup1S (g_dat pe_str (fun H=>.str "A") fun H h=>⟨"A",rfl,by decide,by decide +kernel⟩)).as fun _ _ h=>h.txt).as fun _ _ h=>h.okT (by decide))
    pa_good0)))))))))))))))
  (pss_cons (ps_set (i:=7) nd rfl (Or.inl rfl) (pe_op op_cat (pv 7) (g_list (OkT.stay (K:=K)) (by decide) (pa_good odd_stay (OkT.stay (K:=K)) ((g_cat odd_stay (by decide) (g_cat odd_stay (by decide) ((pe_slice sl_tup (pv 2) po_none (po_some (pv 3))).weak wPre) (g_tup1 ((g_lst1S ((pe_ix ix_tup (pv 2) (pv 3) (fun _ _=>rfl)).weak wAt)).as fun _ _ h=>h.okV))) ((pe_slice sl_tup (pv 2) (po_some (pe_op op_add (pv 3) pe_int)) po_none).weak wPost)).as fun _ _ h=>h.okT (by decide))
    (pa_good odd_stay (OkT.stay (K:=K)) ((g_cat odd_stay (by decide) ((pe_slice sl_tup (pv 2) po_none (po_some (pv 3))).weak wPre) (g_tup1 ((g_tup1S ((pe_ix ix_tup (pv 2) (pv 3) (fun _ _=>rfl)).weak wAt)).as fun _ _ h=>h.okV))).as fun _ _ h=>h.okT (by decide))
    pa_good0)))))
  (pss_one (ps_ret (pe_op op_cat (pv 7) (g_list (OkT.stay (K:=K)) (by decide) (pa_good odd_stay (OkT.stay (K:=K)) ((((pe_callTy call_tuple_of (by rfl) h_tuple PyProof.Rows.boot_tuple (pa_cons ((pe_slice sl_list (pv 6) po_none (po_some pe_int)).weak wL2) pa_nil)).weak (w_tuple _)).as fun _ _ h=>h.txt).as fun _ _ h=>h.okT (by decide))
    (pa_good odd_stay (OkT.stay (K:=K)) ((pe_callTy (call_dict_pairsT rfl) (by rfl) h_dict PyProof.Rows.boot_dict (pa_cons (pe_ix ix_tup (pv 1) pe_int (fun _ _=>rfl)) pa_nil)).weak wDict)
    pa_good0))))))))))),?_⟩
 intro D σ H1 g q
 subst eΦ
 have g0:=g
 obtain ⟨p,c,t,pl,sl,t1,at_,other,ss,sites,xs,us1,rs1,f0,rfl,_⟩:=g0
 have step:∀ {H2 H3:Hp} {l1 l2 q:Addr} {u1 u2:List V},Same H2 H3->H3 q=none->(∀ u ∈ u1,OkT K H2 u)->(∀ u ∈ u2,OkT K H3 u)->∀ u ∈ u1 ++ u2,OkT K (upd H3 q (.lst (u1 ++ u2))) u:=fun s3 hq o1 o2 u hu=>OkT.stay _ _ _ ((List.mem_append.mp hu).elim (fun z=>OkT.stay _ _ _ (o1 u z) s3) (o2 u)) (same_upd hq)
 have big:1000 < sizeLine:=by decide
 refine ⟨g,fun v1 H2 s1 ⟨l1,u1,e1,h1,o1,n1⟩=>?_⟩
 subst e1
 refine ⟨_,rfl,odd_set (odd_stay _ _ _ g s1),fun v2 H3 s2 ⟨l2,u2,e2,h2,o2,n2⟩=>⟨l1,l2,u1,u2,rfl,e2,s2 _ _ h1,h2,by (first|lia|omega),fun q1 hq1=>?_⟩⟩
 have o12:=step (l1:=l1) (l2:=l2) s2 hq1 o1 o2
 have s12:=s1.trans (s2.trans (same_upd (o:=.lst (u1 ++ u2)) hq1))
 have h12:(upd H3 q1 (.lst (u1 ++ u2))) q1=some (.lst (u1 ++ u2)):=upd_same
 have n12:(u1 ++ u2).length=8:=by rw [List.length_append,n1,n2]
 generalize upd H3 q1 (.lst (u1 ++ u2))=H4 at o12 s12 h12 ⊢
 generalize u1 ++ u2=u12 at o12 h12 n12
 refine ⟨_,rfl,odd_set (odd_set (odd_stay _ _ _ g s12)),fun v2 H3 s2 ⟨l2,u2,e2,h2,o2,n2⟩=>⟨q1,l2,u12,u2,rfl,e2,s2 _ _ h12,h2,by (first|lia|omega),fun q2 hq2=>?_⟩⟩
 have o13:=step (l1:=l1) (l2:=l2) s2 hq2 o12 o2
 have s13:=s12.trans (s2.trans (same_upd (o:=.lst (u12 ++ u2)) hq2))
 have h13:(upd H3 q2 (.lst (u12 ++ u2))) q2=some (.lst (u12 ++ u2)):=upd_same
 have n13:(u12 ++ u2).length=12:=by rw [List.length_append,n12,n2]
 generalize upd H3 q2 (.lst (u12 ++ u2))=H5 at o13 s13 h13 ⊢
 generalize u12 ++ u2=u13 at o13 h13 n13
 refine ⟨_,rfl,odd_set (odd_set (odd_set (odd_stay _ _ _ g s13))),fun v2 H3 s2 ⟨l2,u2,e2,h2,o2,n2⟩=>⟨q2,l2,u13,u2,rfl,e2,s2 _ _ h13,h2,by (first|lia|omega),fun q3 hq3=>?_⟩⟩
 have o14:=step (l1:=l1) (l2:=l2) s2 hq3 o13 o2
 have s14:=s13.trans (s2.trans (same_upd (o:=.lst (u13 ++ u2)) hq3))
 have h14:(upd H3 q3 (.lst (u13 ++ u2))) q3=some (.lst (u13 ++ u2)):=upd_same
 have n14:(u13 ++ u2).length=24:=by rw [List.length_append,n13,n2]
 generalize upd H3 q3 (.lst (u13 ++ u2))=H6 at o14 s14 h14 ⊢
 generalize u13 ++ u2=u14 at o14 h14 n14
 refine ⟨_,rfl,odd_set (odd_set (odd_set (odd_set (odd_stay _ _ _ g s14)))),fun v2 H3 s2 ⟨l2,u2,e2,h2,o2,n2⟩=>⟨q3,l2,u14,u2,rfl,e2,s2 _ _ h14,h2,by (first|lia|omega),fun q4 hq4=>?_⟩⟩
 have o15:=step (l1:=l1) (l2:=l2) s2 hq4 o14 o2
 have s15:=s14.trans (s2.trans (same_upd (o:=.lst (u14 ++ u2)) hq4))
 have h15:(upd H3 q4 (.lst (u14 ++ u2))) q4=some (.lst (u14 ++ u2)):=upd_same
 have n15:(u14 ++ u2).length=26:=by rw [List.length_append,n14,n2]
 generalize upd H3 q4 (.lst (u14 ++ u2))=H7 at o15 s15 h15 ⊢
 generalize u14 ++ u2=u15 at o15 h15 n15
 refine ⟨_,rfl,odd_set (odd_set (odd_set (odd_set (odd_set (odd_stay _ _ _ g s15))))),fun v2 H3 s2 ⟨l2,u2,e2,h2,o2,n2⟩=>⟨q4,l2,u15,u2,rfl,e2,s2 _ _ h15,h2,by (first|lia|omega),fun q5 hq5=>?_⟩⟩
 refine q _ q5 _ (s15.trans (s2.trans (same_upd hq5))) ?_ upd_same (step (l1:=l1) (l2:=l2) s2 hq5 o15 o2) (by rw [List.length_append,n15,n2]; decide)
 cases z:H1 q5 with
 | none=>rfl
 | some o=>rw [s2 _ _ (s15 _ _ z)] at hq5; cases hq5
end
end K11
namespace K11
open PySem L2
section
variable {P:Program} {w:World} {K:PySem.W.Frag} {mg:Str->Option Value} {base:Heap}
def spOdd (K:PySem.W.Frag):Sp:=fun vs H Q _=>∃ (p c m t:Addr) (n:Nat) (xs:List Str) (ws:List Way) (rs1 rs2:List Row) (x:V) (d:PyData) (ss:List Str),vs=[.ref p,.ref c,.ref t]/\PnAt H p/\CaseW H c m n xs ws rs1 rs2 x d /\
 H t=some (.tup (ss.map V.str))/\ss ≠ []/\ss.length<=10/\(∀ s ∈ ss,nameB s=true) /\
 ∀ (H':Hp) (D:Addr) (us:List V),PnAt H' p->Keep p H H'->H' D=some (.lst us)->D ≠ p->(∀ u ∈ us,OkT K H' u)->us.length<=60->Q (.ref D) H'
theorem ok_law_odd (h_dict:mg "dict"=none) (h_len:mg "len"=none) (h_list:mg "list"=none) (h_sorted:mg "sorted"=none) (h_tuple:mg "tuple"=none) {fT:Addr} {fdT:FuncData} (DK:DrawF K mg fT fdT) (GT:FnOk P w K mg base CX0 1 fT fdT ["_law_pen_here","_law_many"] spDraw) {f:Addr} {fd:FuncData} (F:Fun K "_law_odd" "_law_odd" s_law_odd f fd):FnOk P w K mg base CX0 2 f fd ["_law_pen_here","_law_case_here","_law_some_here"] (spOdd K):=by
 refine F.ok sc_law_odd (fun vs H Q E h=>?_) (fun cdv A outer s H vs Q E hr h=>?_)
 ·obtain ⟨p,c,m,t,n,xs,ws,rs1,rs2,x,d,ss,rfl,_⟩:=h
  rfl
 ·obtain ⟨p,c,m,t,n,xs,ws,rs1,rs2,x,d,ss,rfl,hP,cw,ht,sne,sl10,sname,k⟩:=h
  have nd:=sc_law_odd.nd
  have hu:=hu_of hr
  have hu64:=hr.units
  have big:1000 < sizeLine:=by decide
  obtain ⟨c1,c2,us1,us2,hc,ht1,hd1,ht2,hd2⟩:=cw.ex
  have nl:1<=ss.length:=Nat.pos_of_ne_zero fun e=>sne (List.length_eq_zero_iff.mp e)
  obtain ⟨r,okw,pos,uni⟩:=cw.map.web cw.n1 cw.n30
  obtain ⟨tl,htl,rd⟩:=odd_rest (P:=P) (w:=w) (K:=K) (mg:=mg) (base:=base) (f:=f) (cdv:=cdv) (A:=A) (outer:=outer) (s:=s) (H:=H) (E:=E) h_dict h_list h_sorted h_tuple
  refine ⟨_,(pss_cons (ps_set (i:=3) nd rfl (Or.inl rfl) (pe_call GT (hr.mono (by decide)) (by rfl) DK.mg DK.F.kp DK.b .nil pass0 (pa_cons (pv 0) (pa_cons (pe_callB call_len_seq (by rfl) h_len PySem.boot_len (pa_cons (pv 2) pa_nil)) pa_nil))))
  (pss_cons (ps_set (i:=4) nd rfl (Or.inl rfl) (pe_ix ix_tup (pe_ix ix_tup (pv 1) pe_int (fun _ _=>rfl)) pe_int (fun _ _=>rfl)))
  (pss_cons (ps_set (i:=5) nd rfl (Or.inl rfl) (pe_ix ix_tup (pv 4) (pe_call GT (hr.mono (by decide)) (by rfl) DK.mg DK.F.kp DK.b .nil pass0 (pa_cons (pv 0) (pa_cons (pe_callB call_len_seq (by rfl) h_len PySem.boot_len (pa_cons (pv 4) pa_nil)) pa_nil))) (fun _ _=>rfl)))
  (pss_cons (ps_comp (ix:=6) (N:=["_law_site","_law_price"]) (σ0:=fun _=>[none,none]) nd rfl (Or.inl rfl) rfl (CompOk.plain (by decide +kernel) (by decide +kernel) rfl (by decide +kernel)) (fun σ _=>Carry.none _ _ _ ["_law_site","_law_price"] σ) (pi_tup (pe_ix ix_tup (pv 1) pe_int (fun _ _=>rfl)))
   (fun s2 H C fp=>⟨(pg_tupK K rfl (n:=2) rfl (pgs_cons (pg_name (i:=0) (show (["_law_site","_law_price"]:List Str).Nodup by decide +kernel) rfl (Or.inl rfl)) (pgs_cons (pg_name (i:=1) (show (["_law_site","_law_price"]:List Str).Nodup by decide +kernel) rfl (Or.inl rfl)) pgs_nil))),pts_nil,(pv 0)⟩))
  htl)))),?_⟩
  refine ⟨_,rfl,_,rfl,t,_,rfl,.inr (SqT.of ht),p,ss.length,by rw [List.length_map]; rfl,hP,by (first|lia|omega),by (first|lia|omega),fun d1 a1 b1 e1 d10 d11=>?_⟩
  have pt:∀ (G:Hp) (x y z:Int),PnAt G p->∀ b ys,G b=some (.tup ys)->(upd G p (.lst (penL x y z))) b=some (.tup ys):=fun G x y z hG b ys e=>by
   rw [upd_ne (by intro z; subst z; obtain ⟨_,_,_,z⟩:=hG; rw [z] at e; cases e)]
   exact e
  have k1:Keep p H (upd H p (.lst (penL a1 b1 e1))):=Keep.upd
  have t1:=pt H a1 b1 e1 hP
  have P1:PnAt (upd H p (.lst (penL a1 b1 e1))) p:=PnAt.set _ _ _
  generalize upd H p (.lst (penL a1 b1 e1))=H1 at k1 t1 P1
  obtain ⟨pl,wl,wv,hm,hpl,hwl,hwd⟩:=cw.map.at'.ex
  have xl:=cw.map.at'.len
  have n1:=cw.n1
  have n30:=cw.n30
  refine ⟨_,rfl,c,_,_,_,rfl,rfl,SqT.of (t1 _ _ hc),rfl,m,_,_,_,rfl,rfl,SqT.of (t1 _ _ hm),rfl,?_⟩
  refine ⟨_,rfl,_,rfl,_,rfl,pl,_,rfl,.inr (SqT.of (t1 _ _ hpl)),p,xs.length,by rw [List.length_map]; rfl,P1,by (first|lia|omega),by (first|lia|omega),fun d2 a2 b2 e2 d20 d21=>?_⟩
  have k2:Keep p H (upd H1 p (.lst (penL a2 b2 e2))):=k1.trans Keep.upd
  have t2:∀ b ys,H b=some (.tup ys)->(upd H1 p (.lst (penL a2 b2 e2))) b=some (.tup ys):=fun b ys e=>pt H1 a2 b2 e2 P1 b ys (t1 b ys e)
  have P2:PnAt (upd H1 p (.lst (penL a2 b2 e2))) p:=PnAt.set _ _ _
  generalize upd H1 p (.lst (penL a2 b2 e2))=H2 at k2 t2 P2
  obtain ⟨j,rfl⟩:∃ j:Nat,d2=(j:Int):=⟨d2.toNat,by (first|lia|omega)⟩
  have hj:j < xs.length:=by (first|lia|omega)
  refine ⟨pl,_,_,.str xs[j],rfl,rfl,SqT.of (t2 _ _ hpl),atI_nat (by rw [List.getElem?_map,List.getElem?_eq_getElem hj]; rfl),?_⟩
  have ul:=rows_len hd1
  have l1:=cw.l1
  have hd1':Dats H2 us1 (rs1.map rowD):=row_dats hd1 t2
  refine ⟨_,rfl,c,_,_,_,rfl,rfl,SqT.of (t2 _ _ hc),rfl,c1,rfl,⟨_,SqT.of (t2 _ _ ht1)⟩,?_⟩
  refine read_map over_tup (xs:=us1) (fun D i σ' H' acc=>∃ (v0 v1:Option V),σ'=[v0,v1]/\Same H2 H'/\H' D=some (.lst acc)/\acc=((rs1.map (·.1)).take i).map V.str/\acc.length=i)
   (by (first|lia|omega)) (fun D hD=>⟨_,_,rfl,same_upd hD,upd_same,rfl,rfl⟩) (fun D i σ' H' acc hD ⟨v0,v1,_,sa,hDD,_,al⟩=>⟨SqT.of (sa _ _ (t2 _ _ ht1)),hDD,al⟩) ?_ ?_
  ·rintro D i σ' H' acc x' B hD ex ⟨v0,v1,rfl,sa,hDD,rfl,al⟩ hB
   obtain ⟨u,tt,eu,rfl,htt⟩:=dats_row hd1' ex
   refine ⟨tt,_,rfl,SqT.of (sa _ _ htt),rfl,_,_,rfl,_,_,rfl,rfl,?_⟩
   refine ⟨_,rfl,hB _ _ _ hDD ⟨_,_,rfl,fun b o e=>by rw [upd_ne (ne_of_none e hD)]; exact sa _ _ e,upd_same,?_,by rw [List.length_append,al]; rfl⟩⟩
   rw [List.take_add_one,List.getElem?_map,eu,List.map_append]
   rfl
  ·rintro D σ' H3 acc hD ⟨v0,v1,rfl,sa,hDD,rfl,al⟩
   rw [ul,show rs1.length=(rs1.map (·.1)).length by rw [List.length_map],List.take_length] at hDD
   have nD:D ≠ p:=P2.ne hD
   have nm:=cw.map.at'.nm
   refine rd _ _ _ ⟨p,c,t,pl,D,c1,d1,xs[j],ss,rs1.map (·.1),_,us1,rs1,_,rfl,sa _ _ (t2 _ _ hc),rfl,sa _ _ (t2 _ _ ht1),row_dats hd1' (fun b ys e=>sa _ _ e),cw.ok1.nd,l1,sa _ _ (t2 _ _ ht),hDD,d10,d11,sl10,by rw [List.length_map]; exact l1,nm _ (List.getElem_mem hj),sname,fun y hy=>?_⟩ (fun H' l us s5 hl h5 o5 n5=>?_)
   ·obtain ⟨u,hu,rfl⟩:=List.mem_map.mp hy
    exact nm _ (cw.ok1.sub u hu)
   ·obtain ⟨pa,pb,pc,hp2⟩:=P2
    have nl:l ≠ p:=by intro z; subst z; rw [sa _ _ hp2] at hl; cases hl
    refine k H' l us ⟨pa,pb,pc,s5 _ _ (sa _ _ hp2)⟩ (fun b o hb e=>s5 _ _ (sa _ _ (k2 b o hb e))) h5 nl o5 n5
end
end K11
namespace K11
open PySem L2
def spLaw (K:PySem.W.Frag):Sp:=fun vs H Q _=>∃ (a:Addr) (ns:List Int),vs=[.ref a]/\Scr K H a (ns.map V.int)/\ns.length<=63/\∀ H',Q (.bl true) H'
section
variable {P:Program} {w:World} {K:PySem.W.Frag} {mg:Str->Option Value} {base:Heap}
theorem shown_opens {os:List (List Str)} (h:∀ f ∈ os,f.length<=10/\∀ s ∈ f,nameB s=true) (l:os.length<=1024):∃ d,d=PyData.list (os.map fun f=>PyData.tuple (f.map PyData.str))/\d.showable=true/\d.hasDict=false/\d.depth<=60/\d.shown.length<=sizeLine:=by
 have f:Fine (PyData.list (os.map fun f=>PyData.tuple (f.map PyData.str))) 2 72704:=(Fine.list (k:=1) (b:=70) fun e he=>by
  obtain ⟨g,hg,rfl⟩:=List.mem_map.mp he
  obtain ⟨h1,h2⟩:=h g hg
  exact (Fine.tuple (k:=0) (b:=6) fun e he=>by
   obtain ⟨s,hs,rfl⟩:=List.mem_map.mp he
   exact Fine.str (h2 s hs)).mono (Nat.le_refl _) (by rw [List.length_map]; (first|lia|omega))).mono (Nat.le_refl _) (by rw [List.length_map]; (first|lia|omega))
 refine ⟨_,rfl,f.sho,f.nod,Nat.le_trans f.dp (by decide),?_⟩
 have q:=PyData.shown_le_bulk 200 (by decide) _ f.lv
 have:=f.bu
 have e:202 * (PyData.list (os.map fun f=>PyData.tuple (f.map PyData.str))).bulk<=202 * 72704:=Nat.mul_le_mul_left _ (by (first|lia|omega))
 have:202 * 72704 + 200<=sizeLine:=by decide
 (first|lia|omega)
theorem ok_law (h_len:mg "len"=none) (h_max:mg "max"=none) (h_min:mg "min"=none) (h_range:mg "range"=none) (h_repr:mg "repr"=none)
  {fE fT fC fA fO fI fD fS f:Addr} {fdE fdT fdC fdA fdO fdI fdD fdS fd:FuncData} (XE:Fn K mg "_law_pen" s_law_pen ["_law_script","_law_k"] fE fdE) (GE:FnOk P w K mg base CX0 1 fE fdE ["_law_script","_law_k"] (spPenL K)) (DK:DrawF K mg fT fdT) (GT:FnOk P w K mg base CX0 1 fT fdT ["_law_pen_here","_law_many"] spDraw)
  (XC:Fn K mg "_law_case" s_law_case ["_law_pen_here"] fC fdC) (GC:FnOk P w K mg base CX0 4 fC fdC ["_law_pen_here"] spCaseK) (XA:Fn K mg "_law_all" s_law_all ["_law_case_here"] fA fdA) (GA:FnOk P w K mg base CX0 1 fA fdA ["_law_case_here"] spAllR)
  (XO:Fn K mg "openings" s_openings ["case"] fO fdO) (GO:FnOk P w K mg base CX0 2 fO fdO ["case"] spAllR) (XI:Fn K mg "is_opening" s_is_opening ["case","thing"] fI fdI) (GI:FnOk P w K mg base CX0 3 fI fdI ["case","thing"] (spIsOp K))
  (XD:Fn K mg "_law_odd" s_law_odd ["_law_pen_here","_law_case_here","_law_some_here"] fD fdD) (GD:FnOk P w K mg base CX0 2 fD fdD ["_law_pen_here","_law_case_here","_law_some_here"] (spOdd K)) (XS:Fn K mg "_law_is" s_law_is ["_law_case_here","_law_thing","_law_every"] fS fdS) (GS:FnOk P w K mg base CX0 4 fS fdS ["_law_case_here","_law_thing","_law_every"] (spIsIt K))
  (F:Fun K "law" "law" s_law f fd):FnOk P w K mg base CX0 5 f fd ["_law_script"] (spLaw K):=by
 refine F.ok sc_law (fun vs H Q E h=>?_) (fun cdv A outer s H vs Q E hr h=>?_)
 ·obtain ⟨a,ns,rfl,_⟩:=h
  rfl
 ·obtain ⟨a,ns,rfl,hS,hlen,k⟩:=h
  have nd:=sc_law.nd
  have hu:=hu_of hr
  have hu64:=hr.units
  have big:100000 < sizeLine:=by decide
  refine ⟨_,(pss_cons (ps_for PassesOwn.never rfl (pi_range1 (by rfl) h_range (pa_cons (pe_callB (call_max2 rfl) (by rfl) h_max PyProof.Rows.boot_max (pa_cons pe_int (pa_cons (pe_callB (call_min2 rfl) (by rfl) h_min PyProof.Rows.boot_min (pa_cons pe_int (pa_cons (pe_callB call_len_seq (by rfl) h_len PySem.boot_len (pa_cons (pv 0) pa_nil)) pa_nil))) pa_nil))) pa_nil)) (pg_name (i:=1) nd rfl (Or.inl rfl))
  (pss_cons (ps_set (i:=2) nd rfl (Or.inl rfl) (pe_call GE (hr.mono (by decide)) (by rfl) XE.mg XE.F.kp XE.b .nil pass0 (pa_cons (pv 0) (pa_cons (pv 1) pa_nil))))
  (pss_cons (ps_set (i:=3) nd rfl (Or.inl rfl) (pe_call GC (hr.mono (by decide)) (by rfl) XC.mg XC.F.kp XC.b .nil pass0 (pa_cons (pv 2) pa_nil)))
  (pss_cons (ps_set (i:=4) nd rfl (Or.inl rfl) (pe_call GA (hr.mono (by decide)) (by rfl) XA.mg XA.F.kp XA.b .nil pass0 (pa_cons (pv 3) pa_nil)))
  (pss_cons (ps_for PassesOwn.never rfl (pi_range1 (by rfl) h_range (pa_cons pe_int pa_nil)) (pg_name (i:=5) nd rfl (Or.inl rfl))
  (pss_cons (ps_set (i:=6) nd rfl (Or.inl rfl) (pe_call GO (hr.mono (by decide)) (by rfl) XO.mg XO.F.kp XO.b .nil pass0 (pa_cons (pv 3) pa_nil)))
  (pss_cons (ps_if (pt_cmpR op_ne (pe_callB (call_repr hr.gd hu64) (by rfl) h_repr PyProof.Rows.boot_repr (pa_cons (pv 6) pa_nil)) (pe_callB (call_repr hr.gd hu64) (by rfl) h_repr PyProof.Rows.boot_repr (pa_cons (pv 4) pa_nil)) (nomark _))
  (pss_one (ps_ret pe_bl))
  pss_nil)
  (pss_one (ps_expr (pe_bm0 PySem.F.plainAttrs_list PySem.F.slot_list_clear PySem.F.type_list_clear mt_clear (pv 6)))))))
  (pss_cons (ps_set (i:=7) nd rfl (Or.inl rfl) (pe_call GT (hr.mono (by decide)) (by rfl) DK.mg DK.F.kp DK.b .nil pass0 (pa_cons (pv 2) (pa_cons (pe_callB call_len_seq (by rfl) h_len PySem.boot_len (pa_cons (pv 4) pa_nil)) pa_nil))))
  (pss_cons (ps_for PassesOwn.never rfl (pi_list (pe_slice sl_list (pe_op op_cat (pe_slice sl_list (pv 4) (po_some (pv 7)) po_none) (pe_slice sl_list (pv 4) po_none (po_some (pv 7)))) po_none (po_some pe_int))) (pg_name (i:=8) nd rfl (Or.inl rfl))
  (pss_one (ps_if (pt_cmpR op_isnot_bl (pe_call GI (hr.mono (by decide)) (by rfl) XI.mg XI.F.kp XI.b .nil pass0 (pa_cons (pv 3) (pa_cons (pv 8) pa_nil))) pe_bl (nomark _))
  (pss_one (ps_ret pe_bl))
  pss_nil)))
  (pss_one (ps_for PassesOwn.never rfl (pi_range1 (by rfl) h_range (pa_cons pe_int pa_nil)) (pg_name (i:=5) nd rfl (Or.inl rfl))
  (pss_one (ps_for PassesOwn.never rfl (pi_list (pe_call GD (hr.mono (by decide)) (by rfl) XD.mg XD.F.kp XD.b .nil pass0 (pa_cons (pv 2) (pa_cons (pv 3) (pa_cons (pe_ix ix_list (pv 4) (pe_call GT (hr.mono (by decide)) (by rfl) DK.mg DK.F.kp DK.b .nil pass0 (pa_cons (pv 2) (pa_cons (pe_callB call_len_seq (by rfl) h_len PySem.boot_len (pa_cons (pv 4) pa_nil)) pa_nil))) (fun _ _=>rfl)) pa_nil))))) (pg_name (i:=9) nd rfl (Or.inl rfl))
  (pss_one (ps_if (pt_not (pt_val (pe_call GS (hr.mono (by decide)) (by rfl) XS.mg XS.F.kp XS.b .nil pass0 (pa_cons (pv 3) (pa_cons (pv 9) (pa_cons (pv 4) pa_nil))))))
  (pss_one (ps_ret pe_bl))
  pss_nil)))))))))))))
  (pss_one (ps_ret pe_bl))),?_⟩
  refine ⟨_,rfl,a,_,rfl,.inl hS.sq,_,_,rfl,_,_,rfl,_,rfl,?_,?_,?_⟩
  ·split <;> split <;> (first|lia|omega)
  ·rw [List.length_map]
   split <;> split <;> (first|lia|omega)
  refine for_range (lo:=0) (fun _ σ H'=>∃ (v1 v2 v3 v4 v5 v6 v7 v8 v9:Option V),σ=[some (.ref a),v1,v2,v3,v4,v5,v6,v7,v8,v9]/\Scr K H' a (ns.map V.int)) ⟨_,_,_,_,_,_,_,_,_,rfl,hS⟩ ?_ (fun σ H' _=>k H')
  rintro j σ H0 hj ⟨v1,v2,v3,v4,v5,v6,v7,v8,v9,rfl,S0⟩
  refine ⟨_,rfl,_,rfl,a,ns,0 + (j:Int),rfl,S0,by (first|lia|omega),fun p y0 y1 hp=>?_⟩
  have P1:PnAt (upd H0 p (.lst (penL y0 y1 0))) p:=PnAt.set _ _ _
  have q1:Same H0 (upd H0 p (.lst (penL y0 y1 0))):=same_upd hp
  generalize upd H0 p (.lst (penL y0 y1 0))=H1 at P1 q1
  refine ⟨_,rfl,p,rfl,P1,fun H2 n c m xs ws rs1 rs2 x d P2 k2 cw ri1 _=>?_⟩
  have rise:=rise_names ri1 cw.ok1.nd
  have nm:=cw.map.at'.nm
  have names:∀ s ∈ rs1.map (·.1),nameB s=true:=fun y hy=>by
   obtain ⟨u,hu,rfl⟩:=List.mem_map.mp hy
   exact nm _ (cw.ok1.sub u hu)
  refine ⟨_,rfl,c,_,x,d,rfl,cw.sites,fun H3 e us os s3 he0 he tU op ol=>?_⟩
  have ne:e ≠ p:=P2.ne he0
  obtain ⟨pa,pb,pc,hp2⟩:=P2
  have P3:PnAt H3 p:=⟨pa,pb,pc,s3 _ _ hp2⟩
  have cw3:=cw.same s3
  have z3:∀ {G:Hp},Keep p H3 G->Same H0 G:=fun {G} kG b o z=>kG b o (ne_of_none z hp) (s3 _ _ (k2 b o (ne_of_none z hp) (q1 _ _ z)))
  have tp:∀ {G:Hp},Keep p H3 G->∀ b ys,H3 b=some (.tup ys)->G b=some (.tup ys):=fun {G} kG b ys z=>kG b _ (by intro y; subst y; obtain ⟨_,_,_,y⟩:=P3; rw [y] at z; cases z) z
  have ul:=tU.len
  have o1:1<=os.length:=by
   have l1:=cw.ok1.one
   obtain ⟨r,hr'⟩:∃ r,r ∈ rs1:=⟨rs1[0],List.getElem_mem l1⟩
   have:[r.1] ∈ os:=(op.2.2 _).mpr ⟨by simp,List.singleton_sublist.mpr (List.mem_map.mpr ⟨r,hr',rfl⟩),by
    rcases cw.lim with ⟨rfl,_⟩ | ⟨i,rfl,_,i1,_⟩
    ·rfl
    ·exact decide_eq_true (by show ((1:Nat):Int)<=i; (first|lia|omega))⟩
   exact List.length_pos_of_mem this
  have of:∀ f ∈ os,f ≠ []/\f.length<=10/\∀ s ∈ f,nameB s=true:=fun f hf=>by
   obtain ⟨h1,h2,_⟩:=(op.2.2 f).mp hf
   have:=h2.length_le
   rw [List.length_map] at this
   have:=cw.l1
   exact ⟨h1,by (first|lia|omega),fun s hs=>names s (h2.subset hs)⟩
  obtain ⟨dd,edd,d1,d2,d3,d4⟩:=shown_opens (fun f hf=>(of f hf).2) ol
  have dats:∀ {G:Hp} {l:Addr} {vs:List V},G l=some (.lst vs)->Tups G vs os->Dat G (.ref l) dd:=fun {G l vs} hl tv=>by rw [edd]; exact .lst hl tv.dats
  refine ⟨2,rfl,by decide,by decide,for_range (n:=2) (fun _ σ H'=>∃ (v5 v6 v7 v8 v9:Option V),σ=[some (.ref a),some (.int (0 + (j:Int))),some (.ref p),some (.ref c),some (.ref e),v5,v6,v7,v8,v9]/\Keep p H3 H'/\PnAt H' p) ⟨_,_,_,_,_,rfl,Keep.refl _ _,P3⟩ ?_ ?_⟩
  ·rintro i σ G hi ⟨v5,v6,v7,v8,v9,rfl,kG,PG⟩
   have cwG:=cw3.keepT (tp kG)
   have tG:=tU.keep (tp kG)
   have heG:=kG _ _ ne he
   refine ⟨_,rfl,c,_,x,d,rfl,cwG.sites,fun G2 D us' os' sG hD0 hD tU' op' ol'=>?_⟩
   have eo:=op'.uniq op
   subst eo
   refine ⟨_,rfl,D,dd,rfl,dats hD tU',d1,d2,d3,d4,_,rfl,e,dd,rfl,dats (sG _ _ heG) (tG.keep fun b ys z=>sG _ _ z),d1,d2,d3,d4,rfl,_,rfl,?_⟩
   refine ite2 (fun z=>by simp at z) (fun _=>?_)
   refine ⟨_,rfl,.inl ⟨rfl,_,SqL.of hD⟩,D,_,rfl,rfl,hD,?_⟩
   have nD:D ≠ p:=PG.ne hD0
   obtain ⟨ga,gb,gc,hg⟩:=PG
   refine ⟨_,_,_,_,_,rfl,fun b o hb z=>?_,⟨ga,gb,gc,by rw [upd_ne (Ne.symm nD)]; exact sG _ _ hg⟩⟩
   have zb:=kG b o hb z
   rw [upd_ne (ne_of_none zb hD0)]
   exact sG _ _ zb
  ·rintro σ G ⟨v5,v6,v7,v8,v9,rfl,kG,PG⟩
   have cwG:=cw3.keepT (tp kG)
   have tG:=tU.keep (tp kG)
   have heG:=kG _ _ ne he
   refine ⟨_,rfl,_,rfl,e,_,rfl,.inl (SqL.of heG),p,us.length,rfl,PG,by (first|lia|omega),by (first|lia|omega),fun st a1 b1 c1 st0 st1=>?_⟩
   have kG1:Keep p H3 (upd G p (.lst (penL a1 b1 c1))):=kG.trans Keep.upd
   have P4:PnAt (upd G p (.lst (penL a1 b1 c1))) p:=PnAt.set _ _ _
   generalize upd G p (.lst (penL a1 b1 c1))=G1 at kG1 P4
   have heG1:=kG1 _ _ ne he
   refine ⟨_,rfl,_,rfl,st,rfl,e,_,rfl,SqL.of heG1,fun A1 hA1=>?_⟩
   have r1:=same_upd (o:=.lst (cutV us (some st) none)) hA1
   have hA1':(upd G1 A1 (.lst (cutV us (some st) none))) A1=some (.lst (cutV us (some st) none)):=upd_same
   generalize upd G1 A1 (.lst (cutV us (some st) none))=G2 at r1 hA1'
   refine ⟨_,rfl,_,rfl,st,rfl,e,_,rfl,SqL.of (r1 _ _ heG1),fun A2 hA2=>?_⟩
   have r2:=same_upd (o:=.lst (cutV us none (some st))) hA2
   have hA2':(upd G2 A2 (.lst (cutV us none (some st)))) A2=some (.lst (cutV us none (some st))):=upd_same
   generalize upd G2 A2 (.lst (cutV us none (some st)))=G3 at r2 hA2'
   have cl1:=cutV_length us (some st) none
   have cl2:=cutV_length us none (some st)
   refine ⟨A1,A2,_,_,rfl,rfl,r2 _ _ hA1',hA2',by (first|lia|omega),fun A3 hA3=>?_⟩
   have r3:=same_upd (o:=.lst (cutV us (some st) none ++ cutV us none (some st))) hA3
   have hA3':(upd G3 A3 (.lst (cutV us (some st) none ++ cutV us none (some st)))) A3=some (.lst (cutV us (some st) none ++ cutV us none (some st))):=upd_same
   generalize upd G3 A3 (.lst (cutV us (some st) none ++ cutV us none (some st)))=G4 at r3 hA3'
   refine ⟨60,rfl,A3,_,rfl,SqL.of hA3',fun A4 hA4=>?_⟩
   have r4:=same_upd (o:=.lst (cutV (cutV us (some st) none ++ cutV us none (some st)) none (some 60))) hA4
   have hA4':(upd G4 A4 (.lst (cutV (cutV us (some st) none ++ cutV us none (some st)) none (some 60)))) A4=some (.lst (cutV (cutV us (some st) none ++ cutV us none (some st)) none (some 60))):=upd_same
   have sub:∀ v ∈ cutV (cutV us (some st) none ++ cutV us none (some st)) none (some 60),v ∈ us:=fun v hv=>(List.mem_append.mp (cut_mem hv)).elim cut_mem cut_mem
   generalize cutV (cutV us (some st) none ++ cutV us none (some st)) none (some 60)=vs at r4 hA4' sub
   generalize upd G4 A4 (.lst vs)=G5 at r4 hA4'
   have r15:=(r1.trans r2).trans (r3.trans r4)
   have P5:PnAt G5 p:=by obtain ⟨g1,g2,g3,hg⟩:=P4; exact ⟨g1,g2,g3,r15 _ _ hg⟩
   have k5:Keep p H3 G5:=kG1.trans (Keep.of_same r15)
   refine ⟨A4,rfl,⟨_,SqL.of hA4'⟩,for_list (xs:=vs) (fun _ σ H'=>∃ (v5 v6 v8 v9:Option V),σ=[some (.ref a),some (.int (0 + (j:Int))),some (.ref p),some (.ref c),some (.ref e),v5,v6,some (.int st),v8,v9]/\Same G5 H') ⟨_,_,_,_,rfl,Same.refl _⟩ (fun i σ H' _ ⟨_,_,_,_,_,sa⟩=>SqL.of (sa _ _ hA4')) ?_ ?_⟩
   ·rintro i v σ G6 ev ⟨v5,v6,v8,v9,rfl,sa⟩
    have k6:Keep p H3 G6:=k5.trans (Keep.of_same sa)
    obtain ⟨t,f,rfl,hf,ht⟩:=(tU.keep (tp k6)).mem (sub v (List.mem_of_getElem? ev))
    obtain ⟨f1,f2,f3⟩:=of f hf
    refine ⟨_,rfl,_,rfl,c,_,x,d,_,rfl,(cw3.keepT (tp k6)).sites,rise,names,.inl ⟨f.map PyData.str,⟨t,_,rfl,ht,dats_strs _ f,fun y hy=>?_,by rw [List.length_map]; (first|lia|omega)⟩,fun b G7 s7 hb=>?_⟩⟩
    ·obtain ⟨y',hy',e'⟩:=List.mem_map.mp hy
     injection e' with e'
     subst e'
     obtain ⟨_,l6,_⟩:=low_of (f3 _ hy')
     (first|lia|omega)
    ·have bt:b=true:=hb.mpr ⟨f,rfl,(op.2.2 f).mp hf⟩
     subst bt
     refine ⟨true,true,rfl,rfl,_,rfl,?_⟩
     refine iteF ?_
     exact ⟨_,_,_,_,rfl,sa.trans s7⟩
   ·rintro σ G6 ⟨v5,v6,v8,v9,rfl,sa⟩
    have k6:Keep p H3 G6:=k5.trans (Keep.of_same sa)
    have P6:PnAt G6 p:=by obtain ⟨g1,g2,g3,hg⟩:=P5; exact ⟨g1,g2,g3,sa _ _ hg⟩
    refine ⟨2,rfl,by decide,by decide,for_range (n:=2) (fun _ σ H'=>∃ (v5 v6 v7 v8 v9:Option V),σ=[some (.ref a),some (.int (0 + (j:Int))),some (.ref p),some (.ref c),some (.ref e),v5,v6,v7,v8,v9]/\Keep p H3 H'/\PnAt H' p) ⟨_,_,_,_,_,rfl,k6,P6⟩ ?_ ?_⟩
    ·rintro i σ Ga hi ⟨v5,v6,v7,v8,v9,rfl,ka,Pa⟩
     have hea:=ka _ _ ne he
     refine ⟨_,rfl,_,rfl,_,rfl,_,rfl,_,rfl,e,_,rfl,.inl (SqL.of hea),p,us.length,rfl,Pa,by (first|lia|omega),by (first|lia|omega),fun q a2 b2 c2 q0 q1'=>?_⟩
     have kb:Keep p H3 (upd Ga p (.lst (penL a2 b2 c2))):=ka.trans Keep.upd
     have Pb:PnAt (upd Ga p (.lst (penL a2 b2 c2))) p:=PnAt.set _ _ _
     generalize upd Ga p (.lst (penL a2 b2 c2))=Gb at kb Pb
     have heb:=kb _ _ ne he
     obtain ⟨q',rfl⟩:∃ q':Nat,q=(q':Int):=⟨q.toNat,by (first|lia|omega)⟩
     have hq:q' < us.length:=by (first|lia|omega)
     obtain ⟨t,f,et,ef,ht⟩:=(tU.keep (tp kb)).get (List.getElem?_eq_getElem hq)
     obtain ⟨f1,f2,f3⟩:=of f (List.mem_of_getElem? ef)
     refine ⟨e,_,_,_,rfl,rfl,SqL.of heb,atI_nat (List.getElem?_eq_getElem hq),?_⟩
     rw [et]
     refine ⟨p,c,m,t,n,xs,ws,rs1,rs2,x,d,f,rfl,Pb,cw3.keepT (tp kb),ht,f1,f2,f3,fun Gc D vs Pc kc hD nD oD lD=>?_⟩
     have kc3:Keep p H3 Gc:=kb.trans kc
     refine ⟨D,rfl,⟨_,SqL.of hD⟩,for_list (xs:=vs) (fun _ σ H'=>∃ (v5 v6 v7 v8 v9:Option V),σ=[some (.ref a),some (.int (0 + (j:Int))),some (.ref p),some (.ref c),some (.ref e),v5,v6,v7,v8,v9]/\Same Gc H') ⟨_,_,_,_,_,rfl,Same.refl _⟩ (fun i σ H' _ ⟨_,_,_,_,_,_,sa⟩=>SqL.of (sa _ _ hD)) ?_ ?_⟩
     ·rintro i' v σ Gd ev ⟨v5,v6,v7,v8,v9,rfl,sd⟩
      have kd:Keep p H3 Gd:=kc3.trans (Keep.of_same sd)
      have ot:=OkT.stay _ _ _ (oD v (List.mem_of_getElem? ev)) sd
      refine ⟨_,rfl,_,rfl,_,rfl,c,e,_,x,d,v,us,os,rfl,(cw3.keepT (tp kd)).sites,rise,names,kd _ _ ne he,tU.keep (tp kd),op,ot,fun Ge se=>?_⟩
      refine ⟨_,rfl,?_⟩
      refine iteF ?_
      exact ⟨_,_,_,_,_,rfl,sd.trans se⟩
     ·rintro σ Gd ⟨v5,v6,v7,v8,v9,rfl,sd⟩
      obtain ⟨g1,g2,g3,hg⟩:=Pc
      exact ⟨_,_,_,_,_,rfl,kc3.trans (Keep.of_same sd),⟨g1,g2,g3,sd _ _ hg⟩⟩
    ·rintro σ Gz ⟨v5,v6,v7,v8,v9,rfl,kz,_⟩
     exact ⟨_,_,_,_,_,_,_,_,_,rfl,S0.same (z3 kz)⟩
end
end K11
namespace K11
open PySem L2
theorem all_mk {l:PySem.W.OpenLaw} {w:World} {K:PySem.W.Frag} {h:Heap} {mg:Str->Option Value} {fa f1 f2 f3 f4 f5 f6 f7 f8 f9 f10 f11 f12 f13 f14 f15 f16:Addr} (X:K.In h) (G:h.Ns mainGlobals mg) (hfa:mg "law"=some (.ref fa))
  {od1 an1 od2 an2 od3 an3 od4 an4 od5 an5 od6 an6 od7 an7 od8 an8 od9 an9 od10 an10 od11 an11 od12 an12 od13 an13 od14 an14 od15 an15 od16 an16:Option Addr} {sl1 sl2 sl3 sl4 sl5 sl6 sl7 sl8 sl9 sl10 sl11 sl12 sl13 sl14 sl15 sl16:Array (Option Value)} {oc1 kV1 dc1 pm1 cd1 ct1 oc2 kV2 dc2 pm2 cd2 ct2 oc3 kV3 dc3 pm3 cd3 ct3 oc4 kV4 dc4 pm4 cd4 ct4 oc5 kV5 dc5 pm5 cd5 ct5 oc6 kV6 dc6 pm6 cd6 ct6 oc7 kV7 dc7 pm7 cd7 ct7 oc8 kV8 dc8 pm8 cd8 ct8 oc9 kV9 dc9 pm9 cd9 ct9 oc10 kV10 dc10 pm10 cd10 ct10 oc11 kV11 dc11 pm11 cd11 ct11 oc12 kV12 dc12 pm12 cd12 ct12 oc13 kV13 dc13 pm13 cd13 ct13 oc14 kV14 dc14 pm14 cd14 ct14 oc15 kV15 dc15 pm15 cd15 ct15 oc16 kV16 dc16 pm16 cd16 ct16:Value}
  (a1:PySem.W.nsIn K mainGlobals "is_name"=some (some (.ref f1))) (l1:K.lookup f1=some ⟨oc1,od1,.func (PySem.W.fnOf "is_name" "is_name" (defArgs s_is_name) (defBody s_is_name) (defScope s_is_name) .none kV1 dc1 pm1 an1 cd1 ct1),sl1⟩) (c1:PySem.W.codeIn K cd1 "is_name"=true) (k1:PySem.W.keepIn K (.ref f1)=true)
  (a2:PySem.W.nsIn K mainGlobals "are_rising"=some (some (.ref f2))) (l2:K.lookup f2=some ⟨oc2,od2,.func (PySem.W.fnOf "are_rising" "are_rising" (defArgs s_are_rising) (defBody s_are_rising) (defScope s_are_rising) .none kV2 dc2 pm2 an2 cd2 ct2),sl2⟩) (c2:PySem.W.codeIn K cd2 "are_rising"=true) (k2:PySem.W.keepIn K (.ref f2)=true)
  (a3:PySem.W.nsIn K mainGlobals "is_opening"=some (some (.ref f3))) (l3:K.lookup f3=some ⟨oc3,od3,.func (PySem.W.fnOf "is_opening" "is_opening" (defArgs s_is_opening) (defBody s_is_opening) (defScope s_is_opening) .none kV3 dc3 pm3 an3 cd3 ct3),sl3⟩) (c3:PySem.W.codeIn K cd3 "is_opening"=true) (k3:PySem.W.keepIn K (.ref f3)=true)
  (a4:PySem.W.nsIn K mainGlobals "openings"=some (some (.ref f4))) (l4:K.lookup f4=some ⟨oc4,od4,.func (PySem.W.fnOf "openings" "openings" (defArgs s_openings) (defBody s_openings) (defScope s_openings) .none kV4 dc4 pm4 an4 cd4 ct4),sl4⟩) (c4:PySem.W.codeIn K cd4 "openings"=true) (k4:PySem.W.keepIn K (.ref f4)=true)
  (a5:PySem.W.nsIn K mainGlobals "most_houses"=some (some (.ref f5))) (l5:K.lookup f5=some ⟨oc5,od5,.func (PySem.W.fnOf "most_houses" "most_houses" (defArgs s_most_houses) (defBody s_most_houses) (defScope s_most_houses) .none kV5 dc5 pm5 an5 cd5 ct5),sl5⟩) (c5:PySem.W.codeIn K cd5 "most_houses"=true) (k5:PySem.W.keepIn K (.ref f5)=true)
  (a6:PySem.W.nsIn K mainGlobals "_law_pen"=some (some (.ref f6))) (l6:K.lookup f6=some ⟨oc6,od6,.func (PySem.W.fnOf "_law_pen" "_law_pen" (defArgs s_law_pen) (defBody s_law_pen) (defScope s_law_pen) .none kV6 dc6 pm6 an6 cd6 ct6),sl6⟩) (c6:PySem.W.codeIn K cd6 "_law_pen"=true) (k6:PySem.W.keepIn K (.ref f6)=true)
  (a7:PySem.W.nsIn K mainGlobals "_law_draw"=some (some (.ref f7))) (l7:K.lookup f7=some ⟨oc7,od7,.func (PySem.W.fnOf "_law_draw" "_law_draw" (defArgs s_law_draw) (defBody s_law_draw) (defScope s_law_draw) .none kV7 dc7 pm7 an7 cd7 ct7),sl7⟩) (c7:PySem.W.codeIn K cd7 "_law_draw"=true) (k7:PySem.W.keepIn K (.ref f7)=true)
  (a8:PySem.W.nsIn K mainGlobals "_law_names"=some (some (.ref f8))) (l8:K.lookup f8=some ⟨oc8,od8,.func (PySem.W.fnOf "_law_names" "_law_names" (defArgs s_law_names) (defBody s_law_names) (defScope s_law_names) .none kV8 dc8 pm8 an8 cd8 ct8),sl8⟩) (c8:PySem.W.codeIn K cd8 "_law_names"=true) (k8:PySem.W.keepIn K (.ref f8)=true)
  (a9:PySem.W.nsIn K mainGlobals "_law_great"=some (some (.ref f9))) (l9:K.lookup f9=some ⟨oc9,od9,.func (PySem.W.fnOf "_law_great" "_law_great" (defArgs s_law_great) (defBody s_law_great) (defScope s_law_great) .none kV9 dc9 pm9 an9 cd9 ct9),sl9⟩) (c9:PySem.W.codeIn K cd9 "_law_great"=true) (k9:PySem.W.keepIn K (.ref f9)=true)
  (a10:PySem.W.nsIn K mainGlobals "_law_map"=some (some (.ref f10))) (l10:K.lookup f10=some ⟨oc10,od10,.func (PySem.W.fnOf "_law_map" "_law_map" (defArgs s_law_map) (defBody s_law_map) (defScope s_law_map) .none kV10 dc10 pm10 an10 cd10 ct10),sl10⟩) (c10:PySem.W.codeIn K cd10 "_law_map"=true) (k10:PySem.W.keepIn K (.ref f10)=true)
  (a11:PySem.W.nsIn K mainGlobals "_law_some"=some (some (.ref f11))) (l11:K.lookup f11=some ⟨oc11,od11,.func (PySem.W.fnOf "_law_some" "_law_some" (defArgs s_law_some) (defBody s_law_some) (defScope s_law_some) .none kV11 dc11 pm11 an11 cd11 ct11),sl11⟩) (c11:PySem.W.codeIn K cd11 "_law_some"=true) (k11:PySem.W.keepIn K (.ref f11)=true)
  (a12:PySem.W.nsIn K mainGlobals "_law_case"=some (some (.ref f12))) (l12:K.lookup f12=some ⟨oc12,od12,.func (PySem.W.fnOf "_law_case" "_law_case" (defArgs s_law_case) (defBody s_law_case) (defScope s_law_case) .none kV12 dc12 pm12 an12 cd12 ct12),sl12⟩) (c12:PySem.W.codeIn K cd12 "_law_case"=true) (k12:PySem.W.keepIn K (.ref f12)=true)
  (a13:PySem.W.nsIn K mainGlobals "_law_all"=some (some (.ref f13))) (l13:K.lookup f13=some ⟨oc13,od13,.func (PySem.W.fnOf "_law_all" "_law_all" (defArgs s_law_all) (defBody s_law_all) (defScope s_law_all) .none kV13 dc13 pm13 an13 cd13 ct13),sl13⟩) (c13:PySem.W.codeIn K cd13 "_law_all"=true) (k13:PySem.W.keepIn K (.ref f13)=true)
  (a14:PySem.W.nsIn K mainGlobals "_law_odd"=some (some (.ref f14))) (l14:K.lookup f14=some ⟨oc14,od14,.func (PySem.W.fnOf "_law_odd" "_law_odd" (defArgs s_law_odd) (defBody s_law_odd) (defScope s_law_odd) .none kV14 dc14 pm14 an14 cd14 ct14),sl14⟩) (c14:PySem.W.codeIn K cd14 "_law_odd"=true) (k14:PySem.W.keepIn K (.ref f14)=true)
  (a15:PySem.W.nsIn K mainGlobals "_law_is"=some (some (.ref f15))) (l15:K.lookup f15=some ⟨oc15,od15,.func (PySem.W.fnOf "_law_is" "_law_is" (defArgs s_law_is) (defBody s_law_is) (defScope s_law_is) .none kV15 dc15 pm15 an15 cd15 ct15),sl15⟩) (c15:PySem.W.codeIn K cd15 "_law_is"=true) (k15:PySem.W.keepIn K (.ref f15)=true)
  (a16:PySem.W.nsIn K mainGlobals "law"=some (some (.ref f16))) (l16:K.lookup f16=some ⟨oc16,od16,.func (PySem.W.fnOf "law" "law" (defArgs s_law) (defBody s_law) (defScope s_law) .none kV16 dc16 pm16 an16 cd16 ct16),sl16⟩) (c16:PySem.W.codeIn K cd16 "law"=true) (k16:PySem.W.keepIn K (.ref f16)=true)
  (z1:PySem.W.nsIn K mainGlobals "len"=some none) (z2:PySem.W.nsIn K mainGlobals "max"=some none) (z3:PySem.W.nsIn K mainGlobals "min"=some none) (z4:PySem.W.nsIn K mainGlobals "range"=some none) (z5:PySem.W.nsIn K mainGlobals "repr"=some none) (z6:PySem.W.nsIn K mainGlobals "int"=some none) (z7:PySem.W.nsIn K mainGlobals "sorted"=some none) (z8:PySem.W.nsIn K mainGlobals "tuple"=some none) (z9:PySem.W.nsIn K mainGlobals "list"=some none) (z10:PySem.W.nsIn K mainGlobals "reversed"=some none) (z11:PySem.W.nsIn K mainGlobals "all"=some none) (z12:PySem.W.nsIn K mainGlobals "dict"=some none) (z13:PySem.W.nsIn K mainGlobals "isinstance"=some none) (z14:PySem.W.nsIn K mainGlobals "set"=some none) (z15:PySem.W.nsIn K mainGlobals "str"=some none) (z16:PySem.W.nsIn K mainGlobals "bool"=some none) {tc1:Tok} (y1:PySem.W.nsIn K mainGlobals "MOST_LETTERS"=some (some (.int 6 tc1))) :
  ∃ fd:FuncData,(∀ (s:Shared) (v:Value),BindsTo s fd ⟨[v],[]⟩ [("_law_script",v)])/\∀ base:Heap,K.In base->base.Ns mainGlobals mg->FnOk l.prog w K mg base CX0 5 fa fd ["_law_script"] (spLaw K):=by
 have e:=hfa.symm.trans (PySem.W.mg_of X G a16)
 cases e
 have F1:=fun_mk (st:=s_is_name) l1 c1 k1
 have F2:=fun_mk (st:=s_are_rising) l2 c2 k2
 have F3:=fun_mk (st:=s_is_opening) l3 c3 k3
 have F4:=fun_mk (st:=s_openings) l4 c4 k4
 have F5:=fun_mk (st:=s_most_houses) l5 c5 k5
 have F6:=fun_mk (st:=s_law_pen) l6 c6 k6
 have F7:=fun_mk (st:=s_law_draw) l7 c7 k7
 have F8:=fun_mk (st:=s_law_names) l8 c8 k8
 have F9:=fun_mk (st:=s_law_great) l9 c9 k9
 have F10:=fun_mk (st:=s_law_map) l10 c10 k10
 have F11:=fun_mk (st:=s_law_some) l11 c11 k11
 have F12:=fun_mk (st:=s_law_case) l12 c12 k12
 have F13:=fun_mk (st:=s_law_all) l13 c13 k13
 have F14:=fun_mk (st:=s_law_odd) l14 c14 k14
 have F15:=fun_mk (st:=s_law_is) l15 c15 k15
 have F16:=fun_mk (st:=s_law) l16 c16 k16
 have b1:=F1.binds (ps:=["thing"]) fun _ _ _ _ _ _ us hl=>by obtain ⟨x,rfl⟩:=len1 hl; rfl
 have b2:=F2.binds (ps:=["things"]) fun _ _ _ _ _ _ us hl=>by obtain ⟨x,rfl⟩:=len1 hl; rfl
 have b3:=F3.binds (ps:=["case","thing"]) fun _ _ _ _ _ _ us hl=>by obtain ⟨x,y,rfl⟩:=len2 hl; rfl
 have b4:=F4.binds (ps:=["case"]) fun _ _ _ _ _ _ us hl=>by obtain ⟨x,rfl⟩:=len1 hl; rfl
 have b5:=F5.binds (ps:=["case"]) fun _ _ _ _ _ _ us hl=>by obtain ⟨x,rfl⟩:=len1 hl; rfl
 have b6:=F6.binds (ps:=["_law_script","_law_k"]) fun _ _ _ _ _ _ us hl=>by obtain ⟨x,y,rfl⟩:=len2 hl; rfl
 have b7:=F7.binds (ps:=["_law_pen_here","_law_many"]) fun _ _ _ _ _ _ us hl=>by obtain ⟨x,y,rfl⟩:=len2 hl; rfl
 have b8:=F8.binds (ps:=["_law_pen_here","_law_many"]) fun _ _ _ _ _ _ us hl=>by obtain ⟨x,y,rfl⟩:=len2 hl; rfl
 have b9:=F9.binds (ps:=["_law_pen_here","_law_least","_law_size"]) fun _ _ _ _ _ _ us hl=>by obtain ⟨x,y,z,rfl⟩:=len3 hl; rfl
 have b10:=F10.binds (ps:=["_law_pen_here","_law_many"]) fun _ _ _ _ _ _ us hl=>by obtain ⟨x,y,rfl⟩:=len2 hl; rfl
 have b11:=F11.binds (ps:=["_law_pen_here","_law_things","_law_most"]) fun _ _ _ _ _ _ us hl=>by obtain ⟨x,y,z,rfl⟩:=len3 hl; rfl
 have b12:=F12.binds (ps:=["_law_pen_here"]) fun _ _ _ _ _ _ us hl=>by obtain ⟨x,rfl⟩:=len1 hl; rfl
 have b13:=F13.binds (ps:=["_law_case_here"]) fun _ _ _ _ _ _ us hl=>by obtain ⟨x,rfl⟩:=len1 hl; rfl
 have b14:=F14.binds (ps:=["_law_pen_here","_law_case_here","_law_some_here"]) fun _ _ _ _ _ _ us hl=>by obtain ⟨x,y,z,rfl⟩:=len3 hl; rfl
 have b15:=F15.binds (ps:=["_law_case_here","_law_thing","_law_every"]) fun _ _ _ _ _ _ us hl=>by obtain ⟨x,y,z,rfl⟩:=len3 hl; rfl
 exact ⟨PySem.W.fnOf "law" "law" (defArgs s_law) (defBody s_law) (defScope s_law) .none kV16 dc16 pm16 an16 cd16 ct16,fun s v=>.of_eq rfl,fun base _ _=>
  ok_law (PySem.W.mg_none_of X G z1) (PySem.W.mg_none_of X G z2) (PySem.W.mg_none_of X G z3) (PySem.W.mg_none_of X G z4) (PySem.W.mg_none_of X G z5) ⟨F6,(PySem.W.mg_of X G a6),b6⟩ (ok_pen (PySem.W.mg_none_of X G z1) F6) ⟨F7,(PySem.W.mg_of X G a7),b7⟩ (ok_draw F7) ⟨F12,(PySem.W.mg_of X G a12),b12⟩ (ok_law_case (PySem.W.mg_none_of X G z6) (PySem.W.mg_none_of X G z7) (PySem.W.mg_none_of X G z8) ⟨F7,(PySem.W.mg_of X G a7),b7⟩ (ok_draw F7) ⟨F10,(PySem.W.mg_of X G a10),b10⟩ (ok_mapW (PySem.W.mg_none_of X G z6) (PySem.W.mg_none_of X G z9) (PySem.W.mg_none_of X G z4) (PySem.W.mg_none_of X G z7) (PySem.W.mg_none_of X G z8) ⟨F8,(PySem.W.mg_of X G a8),b8⟩ (ok_namesL ⟨(PySem.W.mg_none_of X G z1),(PySem.W.mg_none_of X G z3),(PySem.W.mg_none_of X G z9),(PySem.W.mg_none_of X G z4)⟩ (PySem.W.mg_none_of X G z6) ⟨F7,(PySem.W.mg_of X G a7),b7⟩ F8) ⟨F7,(PySem.W.mg_of X G a7),b7⟩ ⟨F9,(PySem.W.mg_of X G a9),b9⟩ (ok_great ⟨F7,(PySem.W.mg_of X G a7),b7⟩ F9) F10) ⟨F11,(PySem.W.mg_of X G a11),b11⟩ (ok_some ⟨(PySem.W.mg_none_of X G z1),(PySem.W.mg_none_of X G z3),(PySem.W.mg_none_of X G z9),(PySem.W.mg_none_of X G z4)⟩ ⟨F7,(PySem.W.mg_of X G a7),b7⟩ F11) ⟨F9,(PySem.W.mg_of X G a9),b9⟩ (ok_great ⟨F7,(PySem.W.mg_of X G a7),b7⟩ F9) F12) ⟨F13,(PySem.W.mg_of X G a13),b13⟩ (ok_law_all (PySem.W.mg_none_of X G z1) (PySem.W.mg_none_of X G z10) (PySem.W.mg_none_of X G z7) F13) ⟨F4,(PySem.W.mg_of X G a4),b4⟩ (ok_openings (PySem.W.mg_none_of X G z1) (PySem.W.mg_none_of X G z7) ⟨F5,(PySem.W.mg_of X G a5),b5⟩ (ok_most_houses (PySem.W.mg_none_of X G z1) (PySem.W.mg_none_of X G z3) F5) F4) ⟨F3,(PySem.W.mg_of X G a3),b3⟩ (ok_is_opening (PySem.W.mg_none_of X G z11) (PySem.W.mg_none_of X G z12) (PySem.W.mg_none_of X G z13) (PySem.W.mg_none_of X G z1) (PySem.W.mg_none_of X G z8) ⟨F5,(PySem.W.mg_of X G a5),b5⟩ (ok_most_houses (PySem.W.mg_none_of X G z1) (PySem.W.mg_none_of X G z3) F5) ⟨F2,(PySem.W.mg_of X G a2),b2⟩ (ok_are_rising (PySem.W.mg_none_of X G z11) (PySem.W.mg_none_of X G z9) (PySem.W.mg_none_of X G z7) (PySem.W.mg_none_of X G z14) ⟨F1,(PySem.W.mg_of X G a1),b1⟩ (ok_name ⟨(PySem.W.mg_none_of X G z1),(PySem.W.mg_none_of X G z13),(PySem.W.mg_none_of X G z15),(PySem.W.mg_none_of X G z11),⟨_,PySem.W.mg_of X G y1⟩⟩ F1) F2) F3) ⟨F14,(PySem.W.mg_of X G a14),b14⟩ (ok_law_odd (PySem.W.mg_none_of X G z12) (PySem.W.mg_none_of X G z1) (PySem.W.mg_none_of X G z9) (PySem.W.mg_none_of X G z7) (PySem.W.mg_none_of X G z8) ⟨F7,(PySem.W.mg_of X G a7),b7⟩ (ok_draw F7) F14) ⟨F15,(PySem.W.mg_of X G a15),b15⟩ (ok_law_is (PySem.W.mg_none_of X G z16) (PySem.W.mg_none_of X G z13) (PySem.W.mg_none_of X G z8) ⟨F3,(PySem.W.mg_of X G a3),b3⟩ (ok_is_opening (PySem.W.mg_none_of X G z11) (PySem.W.mg_none_of X G z12) (PySem.W.mg_none_of X G z13) (PySem.W.mg_none_of X G z1) (PySem.W.mg_none_of X G z8) ⟨F5,(PySem.W.mg_of X G a5),b5⟩ (ok_most_houses (PySem.W.mg_none_of X G z1) (PySem.W.mg_none_of X G z3) F5) ⟨F2,(PySem.W.mg_of X G a2),b2⟩ (ok_are_rising (PySem.W.mg_none_of X G z11) (PySem.W.mg_none_of X G z9) (PySem.W.mg_none_of X G z7) (PySem.W.mg_none_of X G z14) ⟨F1,(PySem.W.mg_of X G a1),b1⟩ (ok_name ⟨(PySem.W.mg_none_of X G z1),(PySem.W.mg_none_of X G z13),(PySem.W.mg_none_of X G z15),(PySem.W.mg_none_of X G z11),⟨_,PySem.W.mg_of X G y1⟩⟩ F1) F2) F3) F15) F16⟩
theorem scr_of {K:PySem.W.Frag} {H:Hp} {a:Addr} {xs:List V} (o:Only H) (h:SqL K H a xs):Scr K H a xs:=by
 rcases h with (h | ⟨ob,h⟩) | h
 ·rcases o a with z | ⟨ob,ys,z⟩ <;> (rw [h] at z; cases z)
 ·exact .inl ⟨ob,h⟩
 ·exact .inr h
theorem walk {l:PySem.W.OpenLaw} {q:Program} {loose:List Str} {XP:(Str->Option Value)->Heap->Prop} {YP:World->Heap->Prop} {d:DefRec} {K:Params->PySem.W.Frag} (hn:l.most=some 63) (hdf:d.params.defaults=[])
  (hY:∀ (w:World) (h:Heap),YP w h->(K w.params).In h)
  (F:∀ (w:World) (mg:Str->Option Value) (fa:Addr) (h:Heap),(K w.params).In h->h.Ns mainGlobals mg->mg d.name=some (.ref fa) ->
   ∃ fd:FuncData,(∀ (s:Shared) (u:Value),BindsTo s fd ⟨[u],[]⟩ [("_law_script",u)])/\∀ base:Heap,(K w.params).In base->base.Ns mainGlobals mg->FnOk l.prog w (K w.params) mg base CX0 5 fa fd ["_law_script"] (spLaw (K w.params))) :
  PySem.W.WalkO q loose XP YP l.row.toRowW d [] (fun f vs=>PySem.call f vs):=
 L2.walk_of (n:=63) (k:=5) (x:="_law_script") (CX:=fun _=>CX0) (sp:=fun w=>spLaw (K w.params)) hn (by decide) hdf ⟨rfl,by decide,by decide,rfl⟩ hY F (fun _ _ a ns hl ho hS=>⟨a,ns,rfl,scr_of ho hS,hl,fun _=>rfl⟩) fun _ _ _ _ _ z=>z
end K11
open PySem PySem.W PyProof.Rows
set_option maxRecDepth 100000 in
set_option maxHeartbeats 0 in
theorem PySem.Challenge.cw_openhouses_k11_openings_known_holds : PySem.Challenge.rw_openhouses_k11_openings_known.Holds := by
 w_on; o_law; k_head; (case hw=>w_witness2)
 k_fill
 refine K11.walk (l:=PySem.Challenge.rw_openhouses_k11_openings_known) rfl rfl (fun w h Y=>PySem.W.kIn_of Y) ?F
 case F=>
  intro w mg fa h KX G hmg
  refine' K11.all_mk KX G hmg ?a1 ?l1 ?c1 ?k1 ?a2 ?l2 ?c2 ?k2 ?a3 ?l3 ?c3 ?k3 ?a4 ?l4 ?c4 ?k4 ?a5 ?l5 ?c5 ?k5 ?a6 ?l6 ?c6 ?k6 ?a7 ?l7 ?c7 ?k7 ?a8 ?l8 ?c8 ?k8 ?a9 ?l9 ?c9 ?k9 ?a10 ?l10 ?c10 ?k10 ?a11 ?l11 ?c11 ?k11 ?a12 ?l12 ?c12 ?k12 ?a13 ?l13 ?c13 ?k13 ?a14 ?l14 ?c14 ?k14 ?a15 ?l15 ?c15 ?k15 ?a16 ?l16 ?c16 ?k16 ?z1 ?z2 ?z3 ?z4 ?z5 ?z6 ?z7 ?z8 ?z9 ?z10 ?z11 ?z12 ?z13 ?z14 ?z15 ?z16 ?y1
  (case a1=>k_is); (case l1=>k_is); (case c1=>k_is); (case k1=>k_is)
  (case a2=>k_is); (case l2=>k_is); (case c2=>k_is); (case k2=>k_is)
  (case a3=>k_is); (case l3=>k_is); (case c3=>k_is); (case k3=>k_is)
  (case a4=>k_is); (case l4=>k_is); (case c4=>k_is); (case k4=>k_is)
  (case a5=>k_is); (case l5=>k_is); (case c5=>k_is); (case k5=>k_is)
  (case a6=>k_is); (case l6=>k_is); (case c6=>k_is); (case k6=>k_is)
  (case a7=>k_is); (case l7=>k_is); (case c7=>k_is); (case k7=>k_is)
  (case a8=>k_is); (case l8=>k_is); (case c8=>k_is); (case k8=>k_is)
  (case a9=>k_is); (case l9=>k_is); (case c9=>k_is); (case k9=>k_is)
  (case a10=>k_is); (case l10=>k_is); (case c10=>k_is); (case k10=>k_is)
  (case a11=>k_is); (case l11=>k_is); (case c11=>k_is); (case k11=>k_is)
  (case a12=>k_is); (case l12=>k_is); (case c12=>k_is); (case k12=>k_is)
  (case a13=>k_is); (case l13=>k_is); (case c13=>k_is); (case k13=>k_is)
  (case a14=>k_is); (case l14=>k_is); (case c14=>k_is); (case k14=>k_is)
  (case a15=>k_is); (case l15=>k_is); (case c15=>k_is); (case k15=>k_is)
  (case a16=>k_is); (case l16=>k_is); (case c16=>k_is); (case k16=>k_is)
  (case z1=>k_is); (case z2=>k_is); (case z3=>k_is); (case z4=>k_is); (case z5=>k_is); (case z6=>k_is); (case z7=>k_is); (case z8=>k_is); (case z9=>k_is); (case z10=>k_is); (case z11=>k_is); (case z12=>k_is); (case z13=>k_is); (case z14=>k_is); (case z15=>k_is); (case z16=>k_is); (case y1=>k_is)
