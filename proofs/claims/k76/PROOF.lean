import PyProof.Rows.All
import Wide.All
import OpenK.AllK
import Wide.FinOn
import Lean
import PyProof.EqAt
import PyProof.EqKinds
import PyProof.TupleCall
import PyProof.P3Eq
import PyProof.NeData
import PyProof.P3In
import PyProof.StrLawsChain
import KE.KIntText
import KE.IntTextLaws
import PyProof.Rows.StrJoinMade
import PyProof.Rows.FStr
import PySem.Challenge.RW_openhouses_k76_trees_as_texts
set_option Elab.async false
set_option linter.all false
set_option maxRecDepth 100000
set_option maxHeartbeats 4000000
namespace L2
open PySem PySem.W PyProof.Rows
section
variable {lt:Keyed->Keyed->Bool}
end
section
variable {prog:Program} {w:World} {A:Around} {E:Value->Shared->Prop} {s:Shared} {κ:SortKind} {lt:Keyed->Keyed->Bool} {a0:Array Keyed}
end
end L2
namespace L2
open PySem PySem.W PyProof.Rows
section lists
variable {lt:Keyed->Keyed->Bool}
end lists
end L2
namespace L2
open PySem PySem.W PyProof.Rows
section
variable {prog:Program} {w:World} {A:Around} {E:Value->Shared->Prop} {s:Shared} {κ:SortKind} {lt:Keyed->Keyed->Bool} {a0:Array Keyed}
end
end L2
namespace L2
open PySem PySem.W PyProof.Rows
section
variable {prog:Program} {w:World} {A:Around} {E:Value->Shared->Prop} {s:Shared} {κ:SortKind} {lt:Keyed->Keyed->Bool} {a0:Array Keyed}
end
end L2
namespace L2
open PySem PySem.W PyProof.Rows
section segs
variable {lt:Keyed->Keyed->Bool}
end segs
section
variable {prog:Program} {w:World} {A:Around} {E:Value->Shared->Prop} {s:Shared} {κ:SortKind} {lt:Keyed->Keyed->Bool} {a0:Array Keyed}
end
end L2
namespace L2
open PySem PySem.W PyProof.Rows
section
variable {lt:Keyed->Keyed->Bool}
end
section
variable {prog:Program} {w:World} {A:Around} {E:Value->Shared->Prop} {s:Shared} {κ:SortKind} {lt:Keyed->Keyed->Bool} {a0:Array Keyed}
end
end L2
namespace L2
open PySem PySem.W PyProof.Rows
section
variable {prog:Program} {w:World} {A:Around} {E:Value->Shared->Prop} {s:Shared} {κ:SortKind} {lt:Keyed->Keyed->Bool} {a0:Array Keyed}
end
end L2
namespace L2
open PySem PySem.Spec PyProof.Rows
abbrev Key:=Sum Int Str
def keyIs:Key->Value->Bool
 | .inl k,v=>Value.isInt k v
 | .inr x,v=>Value.isStrOf x v
def keyH (w:World):Key->Int
 | .inl k=>hashInt k
 | .inr x=>hashStr w x
theorem keyIs_shape:∀ {k:Key} {v:Value},keyIs k v=true->(∃ i t,k=Sum.inl i/\v=Value.int i t)\/(∃ x t,k=Sum.inr x/\v=Value.str x t)
 | .inl i,v,h=>by
  obtain ⟨t,e⟩:=Value.isInt_shape (k:=i) (v:=v) h
  exact .inl ⟨i,t,rfl,e⟩
 | .inr x,v,h=>by
  obtain ⟨t,e⟩:=Value.isStrOf_shape (x:=x) (v:=v) h
  exact .inr ⟨x,t,rfl,e⟩
theorem keyIs_int (i:Int) (t:Tok):keyIs (.inl i) (.int i t)=true:=by simp [keyIs,Value.isInt]
theorem keyIs_str (x:Str) (t:Tok):keyIs (.inr x) (.str x t)=true:=by simp [keyIs,Value.isStrOf]
theorem key_ll (a b:Int):decide ((Sum.inl a:Key)=Sum.inl b)=(a == b):=by
 by_cases e:a=b
 ·subst e; simp
 ·have h:¬ (Sum.inl a:Key)=Sum.inl b:=fun q=>e (Sum.inl.inj q)
  rw [decide_eq_false h]
  exact (beq_eq_false_iff_ne.mpr e).symm
theorem key_rr (a b:Str):decide ((Sum.inr a:Key)=Sum.inr b)=decide (a=b):=by
 by_cases e:a=b
 ·subst e; simp
 ·have h:¬ (Sum.inr a:Key)=Sum.inr b:=fun q=>e (Sum.inr.inj q)
  rw [decide_eq_false h,decide_eq_false e]
theorem key_lr (a:Int) (b:Str):decide ((Sum.inl a:Key)=Sum.inr b)=false:=decide_eq_false (fun q=>nomatch q)
theorem key_rl (a:Str) (b:Int):decide ((Sum.inr a:Key)=Sum.inl b)=false:=decide_eq_false (fun q=>nomatch q)
def mixKind (prog:Program) (w:World):PySem.KeyKind prog w Key where
 is:=keyIs
 hash:=keyH w
 inj:=fun v a b ha hb=>by
  rcases keyIs_shape ha with ⟨i,t,rfl,rfl⟩ | ⟨x,t,rfl,rfl⟩
  ·rcases keyIs_shape hb with ⟨j,u,rfl,e⟩ | ⟨y,u,rfl,e⟩
   ·injection e with e1 _; rw [e1]
   ·exact nomatch e
  ·rcases keyIs_shape hb with ⟨j,u,rfl,e⟩ | ⟨y,u,rfl,e⟩
   ·exact nomatch e
   ·injection e with e1 _; rw [e1]
 byValue:=fun k v h=>by
  rcases keyIs_shape h with ⟨i,t,rfl,rfl⟩ | ⟨x,t,rfl,rfl⟩ <;> rfl
 pyHash:=fun hv h=>by
  rcases keyIs_shape hv with ⟨i,t,rfl,rfl⟩ | ⟨x,t,rfl,rfl⟩
  ·exact wpAny_pyHash_int h
  ·exact wpAny_pyHash_str h
 eqBool:=fun hu hv h=>by
  rcases keyIs_shape hu with ⟨i,t,rfl,rfl⟩ | ⟨x,t,rfl,rfl⟩
  ·rcases keyIs_shape hv with ⟨j,u,rfl,rfl⟩ | ⟨y,u,rfl,rfl⟩
   ·rw [key_ll] at h; exact wpAny_eqBool_int h
   ·rw [key_lr] at h; exact SeqAt.EqAt.int_str i t y u _ _ _ _ h
  ·rcases keyIs_shape hv with ⟨j,u,rfl,rfl⟩ | ⟨y,u,rfl,rfl⟩
   ·rw [key_rl] at h; exact SeqAt.EqAt.str_int x t j u _ _ _ _ h
   ·rw [key_rr] at h; exact wpAny_eqBool_str h
 «strs»:=fun k x t v h=>by
  rcases keyIs_shape h with ⟨i,u,rfl,e⟩ | ⟨y,u,rfl,e⟩
  ·exact nomatch e
  ·injection e with e1 _
   subst e1
   cases v <;> rfl
theorem mixKind_int (prog:Program) (w:World) (i:Int) (t:Tok):(mixKind prog w).is (.inl i) (.int i t)=true:=keyIs_int i t
theorem mixKind_str (prog:Program) (w:World) (x:Str) (t:Tok):(mixKind prog w).is (.inr x) (.str x t)=true:=keyIs_str x t
end L2
namespace L2
open PySem PySem.Spec PyProof.Rows
inductive V where
 | non | bl (b:Bool) | int (i:Int) | str (x:Str) | byt (b:Array UInt8) | flt (b:UInt64) | ref (a:Addr) | ty (n:String)
 deriving DecidableEq
def RelV:V->Value->Prop
 | .non,u=>u=Value.none
 | .bl b,u=>u=Value.bool b
 | .int i,u=>∃ t,u=Value.int i t
 | .str x,u=>∃ t,u=Value.str x t
 | .byt b,u=>∃ t,u=Value.bytes b t
 | .flt b,u=>∃ t,u=Value.float b t
 | .ref a,u=>u=Value.ref a
 | .ty n,u=>u=Value.type n
abbrev Vals:List V->List Value->Prop:=Paired RelV
theorem Vals.length {xs:List V} {us:List Value} (r:Vals xs us):xs.length=us.length:=Paired.length r
theorem Vals.get:∀ {xs:List V} {us:List Value} {i:Nat} {x:V},Vals xs us->xs[i]? = some x->∃ u,us[i]? = some u/\RelV x u
 | _,_,_,_,.nil,e=>by simp at e
 | _,_,0,_,.cons r _,e=>by simp at e; subst e; exact ⟨_,rfl,r⟩
 | _,_,i + 1,x,.cons _ t,e=>by
  obtain ⟨u,h1,h2⟩:=Vals.get (i:=i) (x:=x) t (by simpa using e)
  exact ⟨u,by simpa using h1,h2⟩
theorem Vals.append:∀ {xs ys:List V} {us ws:List Value},Vals xs us->Vals ys ws->Vals (xs ++ ys) (us ++ ws)
 | _,_,_,_,.nil,s=>s
 | _,_,_,_,.cons r t,s=>.cons r (Vals.append t s)
def RelO:Option V->Option Value->Prop
 | some v,some u=>RelV v u
 | none,none=>True
 | _,_=>False
def KV {κ:Type}:List (κ × V)->List (κ × Value)->Prop:=Paired fun (p:κ × V) (q:κ × Value)=>p.1=q.1/\RelV p.2 q.2
def kV:Key->V
 | .inl i=>.int i
 | .inr x=>.str x
inductive HO where
 /-- a list -/
 | lst (xs:List V)
 /-- a tuple (never changes) -/
 | tup (xs:List V)
 /-- a dict whose keys are ints and texts; one whose keys are tuples of ints and texts (the empty one is both) -/
 | dK (kvs:List (Key × V)) | dT (kvs:List (List Key × V))
 /-- a set of ints: its members,its size -/
 | set (S:Int->Bool) (n:Nat)
 /-- an instance of the class at C,its dict at dx,its attributes -/
 | ins (C dx:Addr) (fs:List (Str × V))
 /-- the dict of the instance at x -/
 | own (x:Addr)
 /-- the dict of an exception -/
 | xd (fs:List (Str × V))
 /-- a bound method,f of x -/
 | met (f x:Addr)
 /-- a range object lo,lo + 1,.. below hi -/
 | rng (lo hi:Int)
 /-- a thing that is known to the object (the script; a dict while a loop walks it): read,never written while it is so -/
 | frz (o:Obj) (u:HO)
 /-- a code object's table -/
 | tbl (ps:Array Value)
 /-- any other thing,by what is true of its one object (a def of one's own: SetO a S n:=HO.ext fun h=>..) -/
 | ext (φ:Heap->Prop)
abbrev Hp:=Addr->Option HO
def upd (H:Hp) (a:Addr) (o:HO):Hp:=fun b=>if b=a then some o else H b
theorem upd_same {H:Hp} {a:Addr} {o:HO}:upd H a o a=some o:=by unfold upd; rw [if_pos rfl]
theorem upd_ne {H:Hp} {a b:Addr} {o:HO} (h:b ≠ a):upd H a o b=H b:=by unfold upd; rw [if_neg h]
theorem upd_upd {H:Hp} {a:Addr} {o u:HO}:upd (upd H a o) a u=upd H a u:=by
 funext b; unfold upd; split <;> rfl
theorem ne_of {H:Hp} {a b:Addr} {o u:HO} (h:H a=some o) (h':H b=some u) (d:o ≠ u):a ≠ b:=by
 intro e; subst e; rw [h] at h'; exact d (Option.some.inj h')
theorem ne_of_none {H:Hp} {a b:Addr} {o:HO} (h:H a=some o) (h':H b=none):a ≠ b:=by
 intro e; subst e; rw [h] at h'; cases h'
def TupD (h:Heap) (a:Addr):Prop:=∀ o,h.get? a=some o->o.dict=none
theorem TupD.new {h:Heap} {o:Obj} (hd:o.dict=none) (hf:o.isFreed=false):TupD (h.push o) h.objs.size:=fun o' e=>by
 rw [Heap.get?_push_size _ hf] at e
 cases e
 exact hd
section
variable (P:Program) (w:World)
def ObjOk (H:Hp) (h:Heap) (a:Addr):HO->Prop
 | .lst xs=>xs.length<=sizeLine/\∃ (its:List Value) (n:Nat),Vals xs its/\h.get? a=some { cls:=.type "list",data:=.seq its.toArray n }
 | .tup xs=>xs.length<=sizeLine/\∃ its:List Value,Vals xs its/\IsTup h a its.toArray/\TupD h a
 | .dK kvs=>kvs.length<=sizeLine/\(a == sysModules)=false/\∃ vs,KV kvs vs/\h.DictOf (mixKind P w) a vs
 | .dT kvs=>kvs.length<=sizeLine/\(a == sysModules)=false/\∃ xs:List (List Key × Addr × Value),
   Paired (fun (p:List Key × V) (q:List Key × Addr × Value)=>p.1=q.1/\H q.2.1=some (.tup (p.1.map kV))/\RelV p.2 q.2.2) kvs xs /\
   ∃ o es ep,h.get? a=some o/\o.ExactDict/\o.data=.dict es ep/\es.toList=xs.map (entryOfKey (tupleKind (mixKind P w)))/\(xs.map (·.1)).Nodup
 | .set S n=>h.SetOf (intKind P w) a S n
 | .ins C dx fs=>H dx=some (.own a)/\fs.length<=1000/\dx ≠ a/\h.get? a=some (PySem.W.instObj C dx) /\
   ∃ mA,h.Ns1 dx mA/\(∀ f,RelO (fs.lookup f) (mA f))/\PySem.Within mA (fs.map (·.1))
 | .own _=>∃ o,h.get? a=some o
 | .xd fs=>∃ mA,h.Ns1 a mA/\∀ f,RelO (fs.lookup f) (mA f)
 | .rng lo hi=>∃ t u v,h.get? a=some { cls:=.type "range",data:=.fields #[.int lo t,.int hi u,.int 1 v] }
 | .frz o u=>h.get? a=some o/\ObjOk H h a u
 | .tbl ps=>h.get? a=some { cls:=.none,data:=.fields ps }
 | .met f x=>h.get? a=some (PySem.W.methodObj (.ref f) (.ref x))
 | .ext φ=>φ h/\(∃ o,h.get? a=some o)/\∀ h1 h2:Heap,φ h1->(∀ o,h1.get? a=some o->h2.get? a=some o)->φ h2
def HOk (H:Hp) (h:Heap):Prop:=∀ a o,H a=some o->ObjOk P w H h a o
end
section
variable {P:Program} {w:World} {H H':Hp} {h h':Heap} {a:Addr} {o:HO}
theorem ObjOk.lt (x:ObjOk P w H h a o):a < h.objs.size:=by
 cases o with
 | lst xs=>obtain ⟨_,_,_,_,e⟩:=x; exact Heap.lt_size e
 | tup xs=>obtain ⟨_,_,_,p,_⟩:=x; exact p.lt
 | dK kvs=>obtain ⟨_,_,_,_,o,_,_,e,_⟩:=x; exact Heap.lt_size e
 | dT kvs=>obtain ⟨_,_,_,_,o,_,_,e,_⟩:=x; exact Heap.lt_size e
 | set S n=>obtain ⟨o,_,_,_,e,_⟩:=x; exact Heap.lt_size e
 | ins C dx fs=>obtain ⟨_,_,_,e,_⟩:=x; exact Heap.lt_size e
 | own y=>obtain ⟨_,e⟩:=x; exact Heap.lt_size e
 | xd fs=>obtain ⟨_,⟨_,_,_,e,_⟩,_⟩:=x; exact Heap.lt_size e
 | rng lo hi=>obtain ⟨_,_,_,e⟩:=x; exact Heap.lt_size e
 | frz ob u=>obtain ⟨e,_⟩:=x; exact Heap.lt_size e
 | tbl ps=>exact Heap.lt_size (show h.get? a=some _ from x)
 | met f y=>exact Heap.lt_size (show h.get? a=some _ from x)
 | ext φ=>obtain ⟨_,⟨_,e⟩,_⟩:=x; exact Heap.lt_size e
theorem Paired.mapP {α β:Type} {F G:α->β->Prop}:∀ {l₁:List α} {l₂:List β},Paired F l₁ l₂->(∀ a b,F a b->G a b)->Paired G l₁ l₂
 | _,_,.nil,_=>.nil
 | _,_,.cons r t,f=>.cons (f _ _ r) (Paired.mapP t f)
theorem ObjOk.stay (x:ObjOk P w H h a o) (k:∀ b u,(b=a\/H b=some (.own a))->h.get? b=some u->h'.get? b=some u)
  (ho:∀ b,H b=some (.own a)->H' b=some (.own a)) (ht:∀ b xs,H b=some (.tup xs)->H' b=some (.tup xs)):ObjOk P w H' h' a o:=by
 induction o with
 | lst xs=>obtain ⟨z,its,n,r,e⟩:=x; exact ⟨z,its,n,r,k _ _ (.inl rfl) e⟩
 | tup xs=>
  obtain ⟨z,its,r,⟨ob,e,c⟩,dn⟩:=x
  have e':=k _ _ (.inl rfl) e
  exact ⟨z,its,r,⟨ob,e',c⟩,fun o q=>by rw [e'] at q; cases q; exact dn _ e⟩
 | dK kvs=>obtain ⟨z,y,vs,r,ob,es,ep,e,c⟩:=x; exact ⟨z,y,vs,r,ob,es,ep,k _ _ (.inl rfl) e,c⟩
 | dT kvs=>
  obtain ⟨z,y,xs,r,ob,es,ep,e,c⟩:=x
  exact ⟨z,y,xs,Paired.mapP r fun p q z=>⟨z.1,ht _ _ z.2.1,z.2.2⟩,ob,es,ep,k _ _ (.inl rfl) e,c⟩
 | set S n=>obtain ⟨ob,es,ep,t,e,c⟩:=x; exact ⟨ob,es,ep,t,k _ _ (.inl rfl) e,c⟩
 | ins C dx fs=>
  obtain ⟨d,z,ne,e,mA,⟨od,es,ep,e2,c⟩,r⟩:=x
  exact ⟨ho _ d,z,ne,k _ _ (.inl rfl) e,mA,⟨od,es,ep,k _ _ (.inr d) e2,c⟩,r⟩
 | own y=>obtain ⟨ob,e⟩:=x; exact ⟨ob,k _ _ (.inl rfl) e⟩
 | xd fs=>obtain ⟨mA,⟨od,es,ep,e,c⟩,r⟩:=x; exact ⟨mA,⟨od,es,ep,k _ _ (.inl rfl) e,c⟩,r⟩
 | rng lo hi=>obtain ⟨t,u,v,e⟩:=x; exact ⟨t,u,v,k _ _ (.inl rfl) e⟩
 | frz ob u ih=>obtain ⟨e,q⟩:=x; exact ⟨k _ _ (.inl rfl) e,ih q⟩
 | tbl ps=>
  have e:h.get? a=some { cls:=.none,data:=.fields ps }:=x
  show h'.get? a=some { cls:=.none,data:=.fields ps }
  exact k a _ (.inl rfl) e
 | met f y=>
  have e:h.get? a=some (PySem.W.methodObj (.ref f) (.ref y)):=x
  show h'.get? a=some (PySem.W.methodObj (.ref f) (.ref y))
  exact k a _ (.inl rfl) e
 | ext φ=>obtain ⟨p,⟨o,e⟩,st⟩:=x; exact ⟨st _ _ p fun o q=>k _ _ (.inl rfl) q,⟨o,k _ _ (.inl rfl) e⟩,st⟩
theorem HOk.lt (x:HOk P w H h) (e:H a=some o):a < h.objs.size:=(x a o e).lt
theorem HOk.fresh (x:HOk P w H h) (e:h.objs.size<=a):H a=none:=by
 cases q:H a with
 | none=>rfl
 | some u=>exact absurd (Nat.lt_of_lt_of_le (x.lt q) e) (Nat.lt_irrefl _)
theorem HOk.kept (x:HOk P w H h) (k:∀ b u,h.get? b=some u->h'.get? b=some u):HOk P w H h':=fun a o e=>
 (x a o e).stay (fun b u _ q=>k b u q) (fun _ q=>q) fun _ _ q=>q
theorem HOk.laid (x:HOk P w H h) (k:∀ b u,h.get? b=some u->h'.get? b=some u) (hp:h.objs.size<=a) (new:ObjOk P w (upd H a o) h' a o):HOk P w (upd H a o) h':=fun b u e=>by
 have hn:=x.fresh hp
 by_cases hb:b=a
 ·subst hb; rw [upd_same] at e; cases e; exact new
 ·rw [upd_ne hb] at e
  exact (x b u e).stay (fun c v _ q=>k c v q) (fun c q=>by rw [upd_ne (ne_of_none q hn)]; exact q) fun c xs q=>by rw [upd_ne (ne_of_none q hn)]; exact q
end
def Rd (H:Hp) (a:Addr) (u:HO):Prop:=H a=some u\/∃ o,H a=some (.frz o u)
theorem Rd.ok {P:Program} {w:World} {H:Hp} {h:Heap} {a:Addr} {u:HO} (r:Rd H a u) (x:HOk P w H h):ObjOk P w H h a u:=by
 rcases r with r | ⟨o,r⟩
 ·exact x a u r
 ·obtain ⟨_,q⟩:=x a _ r
  exact q
def Mut:Option HO->Prop
 | some (.lst _)=>True
 | some (.dK _)=>True
 | some (.dT _)=>True
 | some (.set _ _)=>True
 | some (.ins _ _ _)=>True
 | some (.ext _)=>True
 | _=>False
section
variable {P:Program} {w:World} {H:Hp} {h h':Heap} {x e:Addr} {o':HO}
theorem HOk.write (ok:HOk P w H h) (mu:Mut (H x)) (he:e=x\/H e=some (.own x)) (k:∀ b u,b ≠ e->h.get? b=some u->h'.get? b=some u) (heo:∃ u,h'.get? e=some u)
  (new:ObjOk P w (upd H x o') h' x o'):HOk P w (upd H x o') h':=fun b u q=>by
 have nown:∀ c y,H c=some (.own y)->c ≠ x:=fun c y r z=>by subst z; rw [r] at mu; exact mu
 have ntup:∀ c xs,H c=some (.tup xs)->c ≠ x:=fun c xs r z=>by subst z; rw [r] at mu; exact mu
 by_cases hb:b=x
 ·subst hb; rw [upd_same] at q; cases q; exact new
 ·rw [upd_ne hb] at q
  by_cases hbe:b=e
  ·have q':H b=some (.own x):=by
    rcases he with z | z
    ·exact absurd (hbe.trans z) hb
    ·rw [hbe]; exact z
   rw [q] at q'; cases q'
   obtain ⟨v,hv⟩:=heo
   exact ⟨v,by rw [hbe]; exact hv⟩
  ·refine (ok b u q).stay (fun c v hc r=>k c v ?_ r) (fun c r=>by rw [upd_ne (nown c b r)]; exact r) fun c xs r=>by rw [upd_ne (ntup c xs r)]; exact r
   rcases hc with rfl | hc
   ·exact hbe
   ·rintro rfl
    rcases he with z | z
    ·exact nown c b hc z
    ·rw [hc] at z; cases z; exact hb rfl
end
structure Un (fs ex:List Addr) (H H':Hp) (h h':Heap):Prop where
 keep:∀ b o,h.get? b=some o->H b=none->b ∉ fs->b ∉ ex->h'.get? b=some o
 slot:∀ b o,h.get? b=some o->H b=none->b ∈ fs->b ∉ ex->∃ sl,h'.get? b=some { o with slots:=sl }
 free:∀ b o,h.get? b=some o->H b=none->b ∉ ex->H' b=none
 there:∀ b o,h.get? b=some o->b ∉ ex->∃ o',h'.get? b=some o'
 tups:∀ b xs,H b=some (.tup xs)->H' b=some (.tup xs)
 frzs:∀ b o u,H b=some (.frz o u)->H' b=some (.frz o u)
 tbls:∀ b ps,H b=some (.tbl ps)->∃ more,H' b=some (.tbl (ps ++ more))
section
variable {fs fs' ex ex':List Addr} {H H1 H2:Hp} {h h1 h2 h':Heap} {a x e:Addr} {o:HO}
theorem Un.any (u:Un fs ex H H1 h h1) {b:Addr} {ob:Obj} (q:h.get? b=some ob) (n:H b=none) (hx:b ∉ ex):∃ sl,h1.get? b=some { ob with slots:=sl }:=by
 by_cases hb:b ∈ fs
 ·exact u.slot b ob q n hb hx
 ·exact ⟨ob.slots,u.keep b ob q n hb hx⟩
theorem Un.kept (k:∀ b u,h.get? b=some u->h'.get? b=some u):Un fs ex H H h h':=
 ⟨fun b ob q _ _ _=>k b ob q,fun b ob q _ _ _=>⟨ob.slots,k b ob q⟩,fun _ _ _ n _=>n,fun b ob q _=>⟨ob,k b ob q⟩,fun _ _ q=>q,fun _ _ _ q=>q,fun _ ps q=>⟨#[],by rw [q]; simp⟩⟩
theorem Un.refl:Un fs ex H H h h:=Un.kept fun _ _ q=>q
theorem Un.laid (k:∀ b u,h.get? b=some u->h'.get? b=some u) (hp:h.objs.size<=a) (hn:H a=none):Un fs ex H (upd H a o) h h' where
 keep:=fun b u q _ _ _=>k b u q
 slot:=fun b u q _ _ _=>⟨u.slots,k b u q⟩
 free:=fun b u q n _=>by rw [upd_ne (Nat.ne_of_lt (Nat.lt_of_lt_of_le (Heap.lt_size q) hp))]; exact n
 there:=fun b u q _=>⟨u,k b u q⟩
 tups:=fun b xs q=>by rw [upd_ne (ne_of_none q hn)]; exact q
 frzs:=fun b u xs q=>by rw [upd_ne (ne_of_none q hn)]; exact q
 tbls:=fun b ps q=>⟨#[],by rw [upd_ne (ne_of_none q hn),q]; simp⟩
theorem Un.write (mu:Mut (H x)) (he:e=x\/H e=some (.own x)) (k:∀ b u,b ≠ e->h.get? b=some u->h'.get? b=some u) (heo:∃ u,h'.get? e=some u):Un fs ex H (upd H x o) h h':=by
 have hx:∀ b,H b=none->b ≠ x:=fun b n z=>by subst z; rw [n] at mu; exact mu
 have hb:∀ b,H b=none->b ≠ e:=fun b n z=>by
  subst z
  rcases he with r | r
  ·exact hx b n r
  ·rw [n] at r; cases r
 have hm:∀ b u,H b=some u->¬ Mut (some u)->b ≠ x:=fun b u q nm z=>by subst z; rw [q] at mu; exact nm mu
 refine ⟨fun b u q n _ _=>k b u (hb b n) q,fun b u q n _ _=>⟨u.slots,k b u (hb b n) q⟩,fun b u q n _=>by rw [upd_ne (hx b n)]; exact n,fun b u q _=>?_,
  fun b xs q=>by rw [upd_ne (hm b _ q fun z=>z)]; exact q,fun b u xs q=>by rw [upd_ne (hm b _ q fun z=>z)]; exact q,fun b ps q=>⟨#[],by rw [upd_ne (hm b _ q fun z=>z),q]; simp⟩⟩
 by_cases hbe:b=e
 ·subst hbe; exact heo
 ·exact ⟨u,k b u hbe q⟩
end
def trk (h:Heap) (H:Hp):List Addr:=(List.range h.objs.size).filter fun a=>(H a).isSome
def hidT (h:Heap) (H:Hp):Heap:=PySem.W.hideAll h (trk h H)
theorem hidT_size (h:Heap) (H:Hp):(hidT h H).objs.size=h.objs.size:=PySem.W.hideAll_size _ _
theorem hidT_get {h:Heap} {H:Hp} {b:Addr} {o:Obj} (e:h.get? b=some o) (n:H b=none):(hidT h H).get? b=some o:=
 PySem.W.hideAll_get _ e fun hm=>by
  have q:(H b).isSome=true:=(List.mem_filter.mp hm).2
  rw [n] at q; simp at q
theorem of_hidT {h:Heap} {H:Hp} {b:Addr} {o:Obj} (e:(hidT h H).get? b=some o):h.get? b=some o/\H b=none:=by
 have e':h.get? b=some o:=PySem.W.of_hideAll (trk h H) e
 refine ⟨e',?_⟩
 cases q:H b with
 | none=>rfl
 | some x=>
  have hm:b ∈ trk h H:=List.mem_filter.mpr ⟨List.mem_range.mpr (Heap.lt_size e'),by simp [q]⟩
  have z:(hidT h H).get? b=none:=PySem.W.hideAll_none (trk h H) hm
  rw [z] at e; cases e
end L2
namespace L2
open PySem PySem.Spec PyProof.Rows
structure Mod (K:PySem.W.Frag) (mg:Str->Option Value) (base:Heap):Prop where
 kin:K.In base
 glob:base.Ns mainGlobals mg
 blt:∃ mb,base.Ns builtinsNs mb/\∀ x:Str,x ≠ "__name__"->mb x=bootBuiltins x
 nolimit:base.NoLimit
structure Cx where
 prog:Program
 w:World
 K:PySem.W.Frag
 mg:Str->Option Value
 base:Heap
 A:Around
 N:List Str
 s₀:Shared
 H₀:Hp
 env:Env
 outer:List Env
 stack:List Env
 ex:List Addr
 fn:Str->Bool
 calm:Bool
 pn:List (Addr × Obj)
 xe:Value->Shared->Prop
def frs (l:List Env):List Addr:=l.filterMap (·.frame)
abbrev Cx.fs (X:Cx):List Addr:=frs X.outer
def Vis (sc:Scope) (x:Str):Prop:=sc.names.lookup x=some .local\/sc.names.lookup x=some .cell\/sc.names.lookup x=some .free
def Loc (sc:Scope) (x:Str):Prop:=sc.names.lookup x=some .local\/sc.names.lookup x=some .cell
def Look (env:Env) (h:Heap) (m:Str->Option Value) (x:Str) (u:Value):Prop:=
 (env.kindOf x=some .local/\m x=some u)\/((env.kindOf x=some .cell\/env.kindOf x=some .free)/\∃ c,env.cells.lookup x=some c/\h.IsCell c (some u))
structure Cx.Ok (X:Cx):Prop where
 mod:Mod X.K X.mg X.base
 kind:X.env.scope.kind=.function
 glob:X.env.globals=mainGlobals
 blt:X.env.builtins=builtinsNs
 above:X.s₀.heap.objs.size<=X.env.locals
 inj:∀ x y c,X.env.cells.lookup x=some c->X.env.cells.lookup y=some c->x=y
 has:∀ x,(X.env.kindOf x=some .cell\/X.env.kindOf x=some .free)->∃ c,X.env.cells.lookup x=some c
 cab:∀ x c,X.fn x=true->X.env.cells.lookup x=some c->X.s₀.heap.objs.size<=c
 hd:X.calm=true->X.A.handled=none
 frames:X.A.frames=some X.stack
 stk:X.stack=X.outer\/(X.stack=X.env :: X.outer/\X.env.frame=some X.env.locals)
 exf:∀ b ∈ X.ex,b ≠ X.env.locals/\∀ x c,X.env.cells.lookup x=some c->c ≠ b
 bs:∀ b o,X.base.get? b=some o->X.s₀.heap.get? b=some o/\X.H₀ b=none
 bsz:X.base.objs.size<=X.s₀.heap.objs.size
 noex:∀ b o,X.base.get? b=some o->b ∉ X.ex
 exfs:∀ b ∈ X.ex,b ∉ X.fs
 funs:X.s₀.heap.FunFrames X.base X.outer
 frf:∀ b ∈ X.fs,X.H₀ b=none
structure Inv (X:Cx) (pins:List (Addr × Obj)) (σ:List (Option V)) (H:Hp) (s:Shared):Prop where
 ok:X.Ok
 os:s.os=X.s₀.os
 bare:AllBare s.gens
 base:Un X.fs X.ex X.H₀ H X.s₀.heap s.heap
 loc:∃ m,s.heap.Ns X.env.locals m/\∀ (i:Nat) (x:Str) (v:V),X.N[i]? = some x->σ[i]? = some (some v)->Vis X.env.scope x->∃ u,RelV v u/\Look X.env s.heap m x u
 cell:∀ x c,X.env.cells.lookup x=some c->∃ v,s.heap.IsCell c v
 free:H X.env.locals=none
 freeC:∀ x c,X.env.cells.lookup x=some c->H c=none
 pin:∀ p ∈ X.pn ++ pins,s.heap.get? p.1=some p.2/\H p.1=none/\p.1 ≠ X.env.locals/\p.1 ∉ X.fs/\∀ v,p.2.data ≠ .cell v
 hok:HOk X.prog X.w H s.heap
 len:σ.length=X.N.length
section
variable {X:Cx} {pins:List (Addr × Obj)} {σ:List (Option V)} {H H':Hp} {s:Shared} {h':Heap}
theorem Cx.Ok.nofr (ok:X.Ok) {b:Addr} {o:Obj} (e:X.base.get? b=some o):b ∉ X.fs:=fun hb=>by
 have:=(ok.funs.mem hb).1
 rw [e] at this; cases this
theorem Inv.bs (I:Inv X pins σ H s):∀ b o,X.base.get? b=some o->s.heap.get? b=some o/\H b=none:=fun b o e=>
 ⟨I.base.keep b o (I.ok.bs b o e).1 (I.ok.bs b o e).2 (I.ok.nofr e) (I.ok.noex b o e),I.base.free b o (I.ok.bs b o e).1 (I.ok.bs b o e).2 (I.ok.noex b o e)⟩
theorem Inv.bk (I:Inv X pins σ H s):∀ b o,X.base.get? b=some o->s.heap.get? b=some o:=fun b o e=>(I.bs b o e).1
theorem Inv.mod (I:Inv X pins σ H s):Mod X.K X.mg X.base:=I.ok.mod
theorem Inv.kIn (I:Inv X pins σ H s):X.K.In s.heap:=I.ok.mod.kin.keeps I.bk
theorem Inv.lt (I:Inv X pins σ H s):X.env.locals < s.heap.objs.size:=let ⟨_,hn,_⟩:=I.loc; hn.lt
theorem Inv.sz (I:Inv X pins σ H s):X.s₀.heap.objs.size<=s.heap.objs.size:=Nat.le_trans I.ok.above (Nat.le_of_lt I.lt)
theorem Inv.nofs (I:Inv X pins σ H s) {a:Addr} (h:s.heap.objs.size<=a):a ∉ X.fs:=fun hb=>by
 obtain ⟨_,o,ho,_⟩:=I.ok.funs.mem hb
 exact absurd (Nat.lt_of_lt_of_le (Heap.lt_size ho) (Nat.le_trans I.sz h)) (Nat.lt_irrefl _)
theorem Inv.cne (I:Inv X pins σ H s):∀ x c,X.env.cells.lookup x=some c->c ≠ X.env.locals:=fun x c e z=>by
 obtain ⟨v,o,ho,hd⟩:=I.cell x c e
 obtain ⟨m,⟨o',es,ep,ho',hd',_⟩,_⟩:=I.loc
 rw [z,ho'] at ho; cases ho; rw [hd'] at hd; cases hd
theorem Inv.funs (I:Inv X pins σ H s):s.heap.FunFrames X.base X.outer:=by
 have all:∀ (l:List Env),(∀ b ∈ frs l,b ∈ X.fs)->X.s₀.heap.FunFrames X.base l->s.heap.FunFrames X.base l:=by
  intro l
  induction l with
  | nil=>intro _ _; trivial
  | cons env r ih=>
   intro hs hl
   obtain ⟨hk,⟨L,o,hf,hn,ho,hd⟩,hr⟩:=hl
   have hL:L ∈ X.fs:=hs L (by unfold frs; rw [List.filterMap_cons,hf]; exact List.mem_cons_self)
   obtain ⟨sl,e⟩:=I.base.slot L o ho (I.ok.frf L hL) hL fun z=>I.ok.exfs L z hL
   exact ⟨hk,⟨L,_,hf,hn,e,hd⟩,ih (fun b hb=>hs b (by unfold frs; rw [List.filterMap_cons,hf]; exact List.mem_cons_of_mem _ hb)) hr⟩
 exact all X.outer (fun _ hb=>hb) I.ok.funs
theorem Inv.stack (I:Inv X pins σ H s):s.heap.FunFrames X.base X.stack:=by
 rcases I.ok.stk with e | ⟨e,hf⟩
 ·rw [e]; exact I.funs
 ·rw [e]
  obtain ⟨m,hn,_⟩:=I.loc
  refine .cons (by rw [I.ok.kind]; decide) hf hn ?_ I.funs
  exact Heap.get?_none_of_le (Nat.le_trans I.ok.bsz I.ok.above)
theorem Inv.stkSub (I:Inv X pins σ H s):∀ b ∈ frs X.stack,b ∈ X.env.locals :: X.fs:=fun b hb=>by
 rcases I.ok.stk with e | ⟨e,hf⟩
 ·rw [e] at hb; exact List.mem_cons_of_mem _ hb
 ·rw [e] at hb
  unfold frs at hb
  rw [List.filterMap_cons,hf] at hb
  exact hb
theorem Inv.stkFree (I:Inv X pins σ H s):∀ b ∈ frs X.stack,H b=none:=fun b hb=>by
 rcases List.mem_cons.mp (I.stkSub b hb) with e | hb
 ·rw [e]; exact I.free
 ·obtain ⟨_,o,ho,_⟩:=I.ok.funs.mem hb
  exact I.base.free b o ho (I.ok.frf b hb) fun z=>I.ok.exfs b z hb
theorem Inv.step {g':Array GenState} {t':Nat} {d':Drawn} {ch:List Addr} (I:Inv X pins σ H s)
  (hch:∀ b ∈ ch,(b ∈ X.ex\/X.s₀.heap.objs.size<=b)/\b ≠ X.env.locals/\(∀ x c,X.env.cells.lookup x=some c->c ≠ b)/\∀ p ∈ X.pn ++ pins,p.1 ≠ b)
  (keep:∀ b o,b ≠ X.env.locals->b ∉ X.fs->b ∉ ch->s.heap.get? b=some o->H b=none->h'.get? b=some o)
  (slot:∀ b o,b ≠ X.env.locals->b ∈ X.fs->b ∉ ch->s.heap.get? b=some o->H b=none->∃ sl,h'.get? b=some { o with slots:=sl }) (free:∀ b o,b ∉ ch->s.heap.get? b=some o->H b=none->H' b=none)
  (there:∀ b o,b ∉ ch->s.heap.get? b=some o->∃ o',h'.get? b=some o')
  (tups:∀ b xs,H b=some (.tup xs)->H' b=some (.tup xs)) (frzs:∀ b o u,H b=some (.frz o u)->H' b=some (.frz o u)) (tbls:∀ b ps,H b=some (.tbl ps)->∃ more,H' b=some (.tbl (ps ++ more)))
  (ns:∀ m,s.heap.Ns X.env.locals m->h'.Ns X.env.locals m) (hok:HOk X.prog X.w H' h') (hg:AllBare g') :
  Inv X pins σ H' { s with heap:=h',gens:=g',drawn:=d',toks:=t' }:=by
 have neL:∀ b o,X.s₀.heap.get? b=some o->b ≠ X.env.locals:=fun b o e=>Nat.ne_of_lt (Nat.lt_of_lt_of_le (Heap.lt_size e) I.ok.above)
 have neC:∀ b o,X.s₀.heap.get? b=some o->b ∉ X.ex->b ∉ ch:=fun b o e hx hb=>by
  rcases (hch b hb).1 with z | z
  ·exact hx z
  ·exact absurd (Nat.lt_of_lt_of_le (Heap.lt_size e) z) (Nat.lt_irrefl _)
 have cellK:∀ x c,X.env.cells.lookup x=some c->∀ v,s.heap.IsCell c v->h'.IsCell c v:=fun x c e v ⟨o,ho,hd⟩=>by
  have nch:c ∉ ch:=fun z=>(hch c z).2.2.1 x c e rfl
  by_cases hc:c ∈ X.fs
  ·obtain ⟨sl,q⟩:=slot c o (I.cne x c e) hc nch ho (I.freeC x c e)
   exact ⟨_,q,hd⟩
  ·exact ⟨o,keep c o (I.cne x c e) hc nch ho (I.freeC x c e),hd⟩
 refine ⟨I.ok,I.os,hg,⟨fun b o e n hb hx=>?_,fun b o e n hb hx=>?_,fun b o e n hx=>?_,fun b o e hx=>?_,fun b xs e=>tups b xs (I.base.tups b xs e),fun b o xs e=>frzs b o xs (I.base.frzs b o xs e),fun b ps e=>?_⟩,?_,fun x c e=>?_,?_,fun x c e=>?_,fun p hp=>?_,hok,I.len⟩
 ·exact keep b o (neL b o e) hb (neC b o e hx) (I.base.keep b o e n hb hx) (I.base.free b o e n hx)
 ·obtain ⟨sl,e1⟩:=I.base.slot b o e n hb hx
  obtain ⟨sl',e2⟩:=slot b _ (neL b o e) hb (neC b o e hx) e1 (I.base.free b o e n hx)
  exact ⟨sl',e2⟩
 ·obtain ⟨o',e1⟩:=I.base.there b o e hx
  exact free b o' (neC b o e hx) e1 (I.base.free b o e n hx)
 ·obtain ⟨o',e1⟩:=I.base.there b o e hx
  exact there b o' (neC b o e hx) e1
 ·obtain ⟨m1,e1⟩:=I.base.tbls b ps e
  obtain ⟨m2,e2⟩:=tbls b _ e1
  exact ⟨m1 ++ m2,by rw [e2,Array.append_assoc]⟩
 ·obtain ⟨m,hn,hl⟩:=I.loc
  refine ⟨m,ns m hn,fun i x v e1 e2 e3=>?_⟩
  obtain ⟨u,r,l⟩:=hl i x v e1 e2 e3
  refine ⟨u,r,?_⟩
  rcases l with l | ⟨k,c,e,z⟩
  ·exact .inl l
  ·exact .inr ⟨k,c,e,cellK x c e _ z⟩
 ·obtain ⟨v,z⟩:=I.cell x c e
  exact ⟨v,cellK x c e v z⟩
 ·obtain ⟨m,⟨o,_,_,ho,_⟩,_⟩:=I.loc
  exact free _ o (fun z=>(hch _ z).2.1 rfl) ho I.free
 ·obtain ⟨v,o,ho,hd⟩:=I.cell x c e
  exact free c o (fun z=>(hch c z).2.2.1 x c e rfl) ho (I.freeC x c e)
 ·obtain ⟨e,n,ne,nf,d⟩:=I.pin p hp
  have nch:p.1 ∉ ch:=fun z=>(hch p.1 z).2.2.2 p hp rfl
  exact ⟨keep p.1 p.2 ne nf nch e n,free p.1 p.2 nch e n,ne,nf,d⟩
theorem Inv.un {t':Nat} (I:Inv X pins σ H s) (u:Un X.fs [] H H' s.heap h') (hok:HOk X.prog X.w H' h'):Inv X pins σ H' { s with heap:=h',toks:=t' }:=by
 obtain ⟨m,⟨o,es,ep,ho,r⟩,_⟩:=id I.loc
 obtain ⟨sl,hL⟩:=u.any ho I.free (by simp)
 exact I.step (g':=s.gens) (d':=s.drawn) (ch:=[]) (fun _ z=>nomatch z) (fun b o _ hb _ e n=>u.keep b o e n hb (by simp)) (fun b o _ hb _ e n=>u.slot b o e n hb (by simp)) (fun b o _ e n=>u.free b o e n (by simp)) (fun b o _ e=>u.there b o e (by simp)) u.tups u.frzs u.tbls (fun m' hm=>by
  obtain ⟨o',es',ep',ho',r'⟩:=hm
  rw [ho] at ho'; cases ho'
  exact ⟨_,es',ep',hL,r'⟩) hok I.bare
theorem Inv.call {g':Array GenState} {t':Nat} {d':Drawn} {ch:List Addr} (I:Inv X pins σ H s) (u:Un (frs X.stack) ch H H' s.heap h') (hok:HOk X.prog X.w H' h') (hg:AllBare g')
  (hch:∀ b ∈ ch,(b ∈ X.ex\/X.s₀.heap.objs.size<=b)/\b ≠ X.env.locals/\(∀ x c,X.env.cells.lookup x=some c->c ≠ b)/\∀ p ∈ X.pn ++ pins,p.1 ≠ b) :
  Inv X pins σ H' { s with heap:=h',gens:=g',drawn:=d',toks:=t' }:=by
 obtain ⟨m,⟨o,es,ep,ho,r⟩,_⟩:=id I.loc
 obtain ⟨sl,hL⟩:=u.any ho I.free fun z=>(hch _ z).2.1 rfl
 exact I.step (ch:=ch) hch (fun b o hL hb hc e n=>u.keep b o e n (fun z=>(List.mem_cons.mp (I.stkSub b z)).elim hL hb) hc) (fun b o _ _ hc e n=>u.any e n hc) (fun b o hc e n=>u.free b o e n hc) (fun b o hc e=>u.there b o e hc) u.tups u.frzs u.tbls (fun m' hm=>by
  obtain ⟨o',es',ep',ho',r'⟩:=hm
  rw [ho] at ho'; cases ho'
  exact ⟨_,es',ep',hL,r'⟩) hok hg
theorem Inv.turned {t':Nat} {it:Addr} (I:Inv X pins σ H s) (k:∀ b o,b ≠ it->s.heap.get? b=some o->h'.get? b=some o) (hn:H it=none) (hL:it ≠ X.env.locals)
  (h1:it ∈ X.ex\/X.s₀.heap.objs.size<=it) (h2:∀ x c,X.env.cells.lookup x=some c->c ≠ it) (h3:∀ p ∈ X.pn ++ pins,p.1 ≠ it):Inv X pins σ H { s with heap:=h',toks:=t' }:=by
 have nit:∀ b u,H b=some u->b ≠ it:=fun b u e z=>by rw [z,hn] at e; cases e
 refine I.step (g':=s.gens) (d':=s.drawn) (ch:=[it]) (fun b hb=>?_) (fun b o _ _ hc e _=>k b o (fun z=>hc (by simp [z])) e) (fun b o _ _ hc e _=>⟨o.slots,k b o (fun z=>hc (by simp [z])) e⟩) (fun _ _ _ _ n=>n)
  (fun b o hc e=>⟨o,k b o (fun z=>hc (by simp [z])) e⟩) (fun _ _ e=>e) (fun _ _ _ e=>e) (fun b ps e=>⟨#[],by rw [e]; simp⟩) (fun m hm=>?_) (fun b u e=>?_) I.bare
 ·have e:b=it:=by simpa using hb
  subst e
  exact ⟨h1,hL,h2,h3⟩
 ·obtain ⟨o,es,ep,ho,r⟩:=hm
  exact ⟨o,es,ep,k _ o (Ne.symm hL) ho,r⟩
 ·refine (I.hok b u e).stay (fun c v hc q=>k c v ?_ q) (fun _ q=>q) fun _ _ q=>q
  rcases hc with z | z
  ·rw [z]; exact nit b u e
  ·exact nit c _ z
theorem Inv.tok (I:Inv X pins σ H s) (t:Nat):Inv X pins σ H { s with toks:=t }:=I.un (h':=s.heap) (t':=t) Un.refl I.hok
theorem Inv.kept {t':Nat} (I:Inv X pins σ H s) (k:∀ b u,s.heap.get? b=some u->h'.get? b=some u):Inv X pins σ H { s with heap:=h',toks:=t' }:=I.un (Un.kept k) (I.hok.kept k)
theorem Inv.laid {a:Addr} {o:HO} {t':Nat} (I:Inv X pins σ H s) (k:∀ b u,s.heap.get? b=some u->h'.get? b=some u) (hp:s.heap.objs.size<=a) (new:ObjOk X.prog X.w (upd H a o) h' a o) :
  Inv X pins σ (upd H a o) { s with heap:=h',toks:=t' }:=I.un (Un.laid k hp (I.hok.fresh hp)) (I.hok.laid k hp new)
theorem Inv.write {x e:Addr} {o:HO} {t':Nat} (I:Inv X pins σ H s) (mu:Mut (H x)) (he:e=x\/H e=some (.own x)) (k:∀ b u,b ≠ e->s.heap.get? b=some u->h'.get? b=some u) (heo:∃ u,h'.get? e=some u)
  (new:ObjOk X.prog X.w (upd H x o) h' x o):Inv X pins σ (upd H x o) { s with heap:=h',toks:=t' }:=I.un (Un.write mu he k heo) (I.hok.write mu he k heo new)
theorem Inv.pins_of {pins':List (Addr × Obj)} (I:Inv X pins σ H s) (h:∀ p ∈ pins',s.heap.get? p.1=some p.2/\H p.1=none/\p.1 ≠ X.env.locals/\p.1 ∉ X.fs/\∀ v,p.2.data ≠ .cell v):Inv X pins' σ H s:=
 ⟨I.ok,I.os,I.bare,I.base,I.loc,I.cell,I.free,I.freeC,fun p hp=>(List.mem_append.mp hp).elim (fun z=>I.pin p (List.mem_append_left _ z)) (h p),I.hok,I.len⟩
theorem nodup_ix {N:List Str} (hN:N.Nodup) {i j:Nat} {x:Str} (a:N[i]? = some x) (b:N[j]? = some x):i=j:=by
 obtain ⟨h1,e1⟩:=List.getElem?_eq_some_iff.mp a
 obtain ⟨h2,e2⟩:=List.getElem?_eq_some_iff.mp b
 exact (List.getElem_inj hN).mp (e1.trans e2.symm)
theorem store_ok2 {M:Model} {A:Around} {E:Value->Shared->Prop} {i:Nat} {x:Str} {v:V} {u:Value} {Q:Unit->Shared->Prop} (I:Inv X pins σ H s) (hN:X.N.Nodup) (hi:X.N[i]? = some x) (hx:Loc X.env.scope x) (r:RelV v u)
  (h:∀ s',Inv X pins (σ.set i (some v)) H s'->(∃ a,Heap.SameBut a s.heap s'.heap/\(a=X.env.locals\/X.env.cells.lookup x=some a))->Q () s') (hf:X.fn x=true\/X.env.scope.names.lookup x=some .local:=by first | exact .inl rfl | exact .inr rfl | assumption):wpAny M A (storeName X.env x u) Q E s:=by
 obtain ⟨m,hn,hl⟩:=id I.loc
 have hcls:(X.env.scope.kind == .class || (X.env.scope.kind == .module && X.env.locals != X.env.globals))=false:=by rw [I.ok.kind]; rfl
 have hiσ:i < σ.length:=by rw [I.len]; exact (List.getElem?_eq_some_iff.mp hi).1
 have cne:=I.cne
 have tracked:∀ {a:Addr} {h':Heap},(∃ o,s.heap.get? a=some o/\H a=none)->Heap.SameBut a s.heap h'->HOk X.prog X.w H h':=fun {a h'} ha hs b ob e=>by
  obtain ⟨_,_,hfree⟩:=ha
  refine (I.hok b ob e).stay (fun c w' hc q=>(hs.2 c ?_).trans q) (fun _ q=>q) fun _ _ q=>q
  rintro rfl
  rcases hc with rfl | hc
  ·rw [hfree] at e; cases e
  ·rw [hfree] at hc; cases hc
 rcases hx with hk | hk
 ·refine wpAny_storeName_local hk hn (fun h' hn' hs=>?_) hcls
  obtain ⟨oL,_,_,hoL,_⟩:=id hn
  refine h _ ⟨I.ok,I.os,I.bare,⟨fun b o e n hb hx=>?_,fun b o e n hb hx=>?_,I.base.free,fun b o e hx=>?_,I.base.tups,I.base.frzs,I.base.tbls⟩,⟨_,hn',fun j y v' e1 e2 e3=>?_⟩,fun y c e=>?_,I.free,I.freeC,fun p hp=>?_,tracked ⟨oL,hoL,I.free⟩ hs,by simpa using I.len⟩ ⟨_,hs,.inl rfl⟩
  ·exact (hs.2 b (Nat.ne_of_lt (Nat.lt_of_lt_of_le (Heap.lt_size e) I.ok.above))).trans (I.base.keep b o e n hb hx)
  ·obtain ⟨sl,e1⟩:=I.base.slot b o e n hb hx
   exact ⟨sl,(hs.2 b (Nat.ne_of_lt (Nat.lt_of_lt_of_le (Heap.lt_size e) I.ok.above))).trans e1⟩
  ·obtain ⟨o',e1⟩:=I.base.there b o e hx
   exact ⟨o',(hs.2 b (Nat.ne_of_lt (Nat.lt_of_lt_of_le (Heap.lt_size e) I.ok.above))).trans e1⟩
  ·by_cases hj:j=i
   ·subst hj
    rw [hi] at e1; cases e1
    rw [List.getElem?_set_self hiσ] at e2
    cases e2
    exact ⟨u,r,.inl ⟨hk,by simp⟩⟩
   ·rw [List.getElem?_set_ne (Ne.symm hj)] at e2
    obtain ⟨u',r',q⟩:=hl j y v' e1 e2 e3
    refine ⟨u',r',?_⟩
    rcases q with ⟨k,e⟩ | ⟨k,c,e,z⟩
    ·refine .inl ⟨k,?_⟩
     have:y ≠ x:=fun e=>hj (nodup_ix hN e1 (e ▸ hi))
     simp [this,e]
    ·exact .inr ⟨k,c,e,z.sameBut hs (cne y c e)⟩
  ·obtain ⟨w',z⟩:=I.cell y c e
   exact ⟨w',z.sameBut hs (cne y c e)⟩
  ·obtain ⟨e,n,ne,nf,d⟩:=I.pin p hp
   exact ⟨(hs.2 p.1 ne).trans e,n,ne,nf,d⟩
 ·have hfn:X.fn x=true:=by
   rcases hf with z | z
   ·exact z
   ·rw [z] at hk; cases hk
  obtain ⟨c,hc⟩:=I.ok.has x (.inl hk)
  obtain ⟨w',z⟩:=I.cell x c hc
  refine wpAny_storeName_cell I.ok.kind hk hc z (fun h' hc' hs=>?_)
  obtain ⟨oc,hoc,hocd⟩:=id z
  refine h { s with heap:=h' } ⟨I.ok,I.os,I.bare,⟨fun b o e n hb hx=>?_,fun b o e n hb hx=>?_,I.base.free,fun b o e hx=>?_,I.base.tups,I.base.frzs,I.base.tbls⟩,⟨m,hn.sameBut hs (Ne.symm (cne x c hc)),fun j y v' e1 e2 e3=>?_⟩,fun y c' e=>?_,I.free,I.freeC,fun p hp=>?_,tracked ⟨oc,hoc,I.freeC x c hc⟩ hs,by simpa using I.len⟩ ⟨c,hs,.inr hc⟩
  ·exact (hs.2 b (Nat.ne_of_lt (Nat.lt_of_lt_of_le (Heap.lt_size e) (I.ok.cab x c hfn hc)))).trans (I.base.keep b o e n hb hx)
  ·obtain ⟨sl,e1⟩:=I.base.slot b o e n hb hx
   exact ⟨sl,(hs.2 b (Nat.ne_of_lt (Nat.lt_of_lt_of_le (Heap.lt_size e) (I.ok.cab x c hfn hc)))).trans e1⟩
  ·obtain ⟨o',e1⟩:=I.base.there b o e hx
   exact ⟨o',(hs.2 b (Nat.ne_of_lt (Nat.lt_of_lt_of_le (Heap.lt_size e) (I.ok.cab x c hfn hc)))).trans e1⟩
  ·by_cases hj:j=i
   ·subst hj
    rw [hi] at e1; cases e1
    rw [List.getElem?_set_self hiσ] at e2
    cases e2
    exact ⟨u,r,.inr ⟨.inl hk,c,hc,hc'⟩⟩
   ·rw [List.getElem?_set_ne (Ne.symm hj)] at e2
    obtain ⟨u',r',q⟩:=hl j y v' e1 e2 e3
    refine ⟨u',r',?_⟩
    rcases q with q | ⟨k,c',e,z'⟩
    ·exact .inl q
    ·refine .inr ⟨k,c',e,z'.sameBut hs ?_⟩
     rintro rfl
     exact hj (nodup_ix hN e1 (I.ok.inj _ _ _ e hc ▸ hi))
  ·by_cases hcc:c'=c
   ·subst hcc; exact ⟨_,hc'⟩
   ·obtain ⟨w2,z2⟩:=I.cell y c' e
    exact ⟨w2,z2.sameBut hs hcc⟩
  ·obtain ⟨e,n,ne,nf,d⟩:=I.pin p hp
   refine ⟨(hs.2 p.1 ?_).trans e,n,ne,nf,d⟩
   intro q
   rw [q,hoc] at e
   have q':oc=p.2:=Option.some.inj e
   exact d w' (by rw [<-q']; exact hocd)
theorem store_ok {M:Model} {A:Around} {E:Value->Shared->Prop} {i:Nat} {x:Str} {v:V} {u:Value} {Q:Unit->Shared->Prop} (I:Inv X pins σ H s) (hN:X.N.Nodup) (hi:X.N[i]? = some x) (hx:Loc X.env.scope x) (r:RelV v u)
  (h:∀ s',Inv X pins (σ.set i (some v)) H s'->Q () s') (hf:X.fn x=true\/X.env.scope.names.lookup x=some .local:=by first | exact .inl rfl | exact .inr rfl | assumption):wpAny M A (storeName X.env x u) Q E s:=
 store_ok2 I hN hi hx r (fun s' I' _=>h s' I') hf
theorem Inv.call' {s':Shared} {ch:List Addr} (I:Inv X pins σ H s) (ho:s'.os=s.os) (u:Un (frs X.stack) ch H H' s.heap s'.heap) (hok:HOk X.prog X.w H' s'.heap) (hg:AllBare s'.gens)
  (hch:∀ b ∈ ch,(b ∈ X.ex\/X.s₀.heap.objs.size<=b)/\b ≠ X.env.locals/\(∀ x c,X.env.cells.lookup x=some c->c ≠ b)/\∀ p ∈ X.pn ++ pins,p.1 ≠ b):Inv X pins σ H' s':=by
 obtain ⟨h',g',d',t',o'⟩:=s'
 have e:o'=s.os:=ho
 subst e
 exact I.call (g':=g') (t':=t') (d':=d') u hok hg hch
end
abbrev XK:=Value->Option Addr->Hp->Prop
abbrev St:=List (Option V)
abbrev VK:=V->Hp->Prop
abbrev TE:=St->Hp->VK->Prop
abbrev TT:=St->Hp->(Bool->Hp->Prop)->Prop
abbrev TA:=St->Hp->(List V->Hp->Prop)->Prop
structure Ends where
 nx:St->Hp->Prop
 rt:VK
 bk:St->Hp->Prop:=fun _ _=>False
 ct:St->Hp->Prop:=fun _ _=>False
abbrev TS:=Ends->St->Hp->Prop
def EP (X:Cx) (pins:List (Addr × Obj)) (σ:St) (Q:VK) (u:Value) (s':Shared):Prop:=∃ v H',Inv X pins σ H' s'/\RelV v u/\Q v H'
def TP (X:Cx) (pins:List (Addr × Obj)) (σ:St) (Q:Bool->Hp->Prop) (b:Bool) (s':Shared):Prop:=∃ H',Inv X pins σ H' s'/\Q b H'
def AP (X:Cx) (pins:List (Addr × Obj)) (σ:St) (Q:List V->Hp->Prop) (us:List Value) (s':Shared):Prop:=∃ vs H',Inv X pins σ H' s'/\Vals vs us/\Q vs H'
def SP (X:Cx) (pins:List (Addr × Obj)) (D:Ends) (f:Flow) (s':Shared):Prop:=
 match f with
 | .next=>∃ σ' H',Inv X pins σ' H' s'/\D.nx σ' H'
 | .brk=>∃ σ' H',Inv X pins σ' H' s'/\D.bk σ' H'
 | .cont=>∃ σ' H',Inv X pins σ' H' s'/\D.ct σ' H'
 | .ret u=>∃ v σ' H',Inv X pins σ' H' s'/\RelV v u/\D.rt v H'
def PE (X:Cx) (e:Expr) (t:TE):Prop:=
 ∀ (pins:List (Addr × Obj)) (s:Shared) (σ:St) (H:Hp) (Q:VK),Inv X pins σ H s->t σ H Q->wpAny (model X.prog X.w) X.A (eval e X.env) (EP X pins σ Q) X.xe s
def PT (X:Cx) (e:Expr) (t:TT):Prop:=
 ∀ (pins:List (Addr × Obj)) (s:Shared) (σ:St) (H:Hp) (Q:Bool->Hp->Prop),Inv X pins σ H s->t σ H Q->wpAny (model X.prog X.w) X.A (isTrue e X.env (eval e X.env)) (TP X pins σ Q) X.xe s
def PW (X:Cx) (e:Expr) (t:TT):Prop:=
 ∀ (whole:Sem Value) (pins:List (Addr × Obj)) (s:Shared) (σ:St) (H:Hp) (Q:Bool->Hp->Prop),Inv X pins σ H s->t σ H Q->wpAny (model X.prog X.w) X.A (isTrue e X.env whole) (TP X pins σ Q) X.xe s
theorem PW.pt {X:Cx} {e:Expr} {t:TT} (h:PW X e t):PT X e t:=h _
def PA (X:Cx) (es:List Expr) (t:TA):Prop:=
 ∀ (pos:Pos) (pins:List (Addr × Obj)) (s:Shared) (σ:St) (H:Hp) (Q:List V->Hp->Prop),Inv X pins σ H s->t σ H Q->wpAny (model X.prog X.w) X.A (spliced (backTo pos (starEach es X.env))) (AP X pins σ Q) X.xe s
def PS (X:Cx) (st:Stmt) (t:TS):Prop:=
 ∀ (pins:List (Addr × Obj)) (s:Shared) (σ:St) (H:Hp) (D:Ends),Inv X pins σ H s->t D σ H->wpAny (model X.prog X.w) X.A (exec st X.env) (SP X pins D) X.xe s
def PSs (X:Cx) (st:List Stmt) (t:TS):Prop:=
 ∀ (pins:List (Addr × Obj)) (s:Shared) (σ:St) (H:Hp) (D:Ends),Inv X pins σ H s->t D σ H->wpAny (model X.prog X.w) X.A (execs st X.env) (SP X pins D) X.xe s
theorem thn {α:Type} {t:Sem α} {Q Q':α->Shared->Prop} {M:Model} {A:Around} {E:Value->Shared->Prop} {s:Shared} (h:wpAny M A t Q E s) (hQ:∀ a s,Q a s->Q' a s):wpAny M A t Q' E s:=wpAny_mono h hQ fun _ _ x=>x
end L2
namespace L2
open PySem PySem.Spec PyProof.Rows
section
variable {X:Cx}
def tVar (i:Nat):TE:=fun σ H Q=>∃ v,σ[i]? = some (some v)/\Q v H
def tC (v:V):TE:=fun _ H Q=>Q v H
theorem pe_var {i:Nat} {x:Str} {pos:Pos} (hN:X.N[i]? = some x) (hv:Vis X.env.scope x) (hd:(x == ("__debug__":Str))=false:=by decide) (hcd:(x == ("__classdict__":Str))=false:=by decide):PE X (.Name x pos) (tVar i):=by
 intro pins s σ H Q I h
 obtain ⟨v,e,h⟩:=h
 obtain ⟨m,hn,hl⟩:=I.loc
 obtain ⟨u,r,l⟩:=hl i x v hN e hv
 have fin:EP X pins σ Q u s:=⟨v,H,I,r,h⟩
 rcases l with ⟨hk,hm⟩ | ⟨hk,c,hc,hcell⟩
 ·exact wpAny_Name (wpAny_loadName_local I.ok.kind hk hn hm fin) hd
 ·rcases hk with hk | hk
  ·exact wpAny_Name (wpAny_loadName_cell I.ok.kind hk hc hcell fin) hd
  ·exact wpAny_Name (wpAny_loadName_free I.ok.kind hk hc hcell fin hcd) hd
theorem pe_int {i j pos}:PE X (.Constant (.int i) j pos) (tC (.int i)):=fun _ _ _ H _ I h=>wpAny_Constant_int ⟨.int i,H,I.tok _,⟨_,rfl⟩,h⟩
theorem pe_bl {b j pos}:PE X (.Constant (.bool b) j pos) (tC (.bl b)):=fun _ _ _ H _ I h=>Constant_bool ⟨.bl b,H,I,rfl,h⟩
theorem pe_str {x j pos}:PE X (.Constant (.str x) j pos) (tC (.str x)):=fun _ _ _ H _ I h=>Calls.Constant_str ⟨.str x,H,I.tok _,⟨_,rfl⟩,h⟩
def Gl (X:Cx) (x:Str):Prop:=X.env.kindOf x=some .globalImplicit
theorem ld_glob {E:Value->Shared->Prop} {pins:List (Addr × Obj)} {s:Shared} {σ:St} {H:Hp} {x:Str} {u:Value} {pos:Pos} {Q:Value->Shared->Prop} (I:Inv X pins σ H s) (hg:Gl X x) (hm:X.mg x=some u) (h:Q u s)
  (hd:(x == ("__debug__":Str))=false:=by decide):wpAny (model X.prog X.w) X.A (eval (.Name x pos) X.env) Q E s:=
 Calls.Name_function_global I.ok.kind hg (Calls.loadGlobal_global (by rw [I.ok.glob]; exact I.mod.glob.keeps I.bk) hm h) hd
theorem ld_blt {E:Value->Shared->Prop} {pins:List (Addr × Obj)} {s:Shared} {σ:St} {H:Hp} {x:Str} {u:Value} {pos:Pos} {Q:Value->Shared->Prop} (I:Inv X pins σ H s) (hg:Gl X x) (hm:X.mg x=none) (hv:bootBuiltins x=some u) (h:Q u s)
  (hn:x ≠ "__name__":=by decide) (hd:(x == ("__debug__":Str))=false:=by decide):wpAny (model X.prog X.w) X.A (eval (.Name x pos) X.env) Q E s:=by
 obtain ⟨mb,h1,h2⟩:=I.mod.blt
 exact Calls.Name_function_global I.ok.kind hg (Calls.loadGlobal_builtin (by rw [I.ok.glob]; exact I.mod.glob.keeps I.bk) hm (by rw [I.ok.blt]; exact h1.keeps I.bk) ((h2 x hn).trans hv) h) hd
theorem pe_glob {x:Str} {v:V} {u:Value} {pos:Pos} (hg:Gl X x) (hm:X.mg x=some u) (r:RelV v u) (hd:(x == ("__debug__":Str))=false:=by decide):PE X (.Name x pos) (tC v):=
 fun _ _ _ H _ I h=>ld_glob I hg hm ⟨v,H,I,r,h⟩ hd
theorem pe_bltn {x:Str} {v:V} {u:Value} {pos:Pos} (hg:Gl X x) (hm:X.mg x=none) (hv:bootBuiltins x=some u) (r:RelV v u) (hn:x ≠ "__name__":=by decide) (hd:(x == ("__debug__":Str))=false:=by decide):PE X (.Name x pos) (tC v):=
 fun _ _ _ H _ I h=>ld_blt I hg hm hv ⟨v,H,I,r,h⟩ hn hd
variable {a b:Expr} {ta tb:TE} {pos:Pos}
def PC (X:Cx) (op:CmpOp) (a b:Expr) (t:TE):Prop:=
 ∀ (pins:List (Addr × Obj)) (s:Shared) (σ:St) (H:Hp) (Q:VK),Inv X pins σ H s->t σ H Q ->
  wpAny (model X.prog X.w) X.A (eval a X.env) (fun v s₁=>wpAny (model X.prog X.w) X.A (eval b X.env) (fun u s₂=>wpAny (model X.prog X.w) X.A (compareOp op v u) (EP X pins σ Q) X.xe s₂) X.xe s₁) X.xe s
theorem nobehind (b:Expr) {op:CmpOp} (h:op ≠ .In) (h2:op ≠ .NotIn):behindInMarks op b=false:=by
 have e1:(op == CmpOp.In)=false:=by cases op <;> first | rfl | exact absurd rfl h
 have e2:(op == CmpOp.NotIn)=false:=by cases op <;> first | rfl | exact absurd rfl h2
 cases b <;> simp [behindInMarks,e1,e2]
def tIsN (ta:TE):TE:=fun σ H Q=>ta σ H fun x H1=>Q (.bl (decide (x=.non))) H1
theorem RelV.none_iff {x:V} {v:Value} (r:RelV x v):(v == Value.none)=decide (x=.non):=by
 cases x with
 | non=>cases r; rfl
 | bl _=>cases r; rfl
 | int _=>obtain ⟨t,rfl⟩:=r; rfl
 | str _=>obtain ⟨t,rfl⟩:=r; rfl
 | byt _=>obtain ⟨t,rfl⟩:=r; rfl
 | flt _=>obtain ⟨t,rfl⟩:=r; rfl
 | ref _=>cases r; rfl
 | ty _=>cases r; rfl
theorem pc_isN {j pos'} (ha:PE X a ta):PC X .Is a (.Constant .none j pos') (tIsN ta):=by
 intro pins s σ H Q I h
 refine thn (ha pins s σ H _ I h) fun v s1 ⟨x,H1,I1,r1,q1⟩=>?_
 exact Constant_none (is_none_gen ⟨.bl _,H1,I1,by rw [r1.none_iff]; rfl,q1⟩)
def tB (t:TE):TT:=fun σ H Q=>t σ H fun x H1=>∃ c,x=.bl c/\Q c H1
theorem pe_cmp {op:CmpOp} {t:TE} (h:PC X op a b t) (h1:behindInMarks op b=false:=by first | exact nobehind _ (by decide) (by decide) | rfl):PE X (.Compare a [op] [b] pos) t:=fun pins s σ H Q I hw=>wpAny_Compare1 (h pins s σ H Q I hw) h1
theorem pt_cmp {op:CmpOp} {t:TE} (h:PC X op a b t) (h1:behindInMarks op b=false:=by first | exact nobehind _ (by decide) (by decide) | rfl):PT X (.Compare a [op] [b] pos) (tB t):=by
 intro pins s σ H Q I hw
 refine wpAny_isTrue_Compare1 (thn (h pins s σ H _ I hw) fun v s1 h1=>thn h1 fun u s2 h2=>thn h2 fun c s3 ⟨x,H1,I1,r1,q1⟩=>?_) h1
 obtain ⟨d,rfl,q⟩:=q1
 cases r1
 exact wpAny_truthy_bool ⟨H1,I1,q⟩
theorem pt_val {e:Expr} {t:TE} (h:PE X e t) (he:∀ whole,isTrue e X.env whole=(do let v <- whole; standAt e.pos; holding [v] (truthy v)):=by intro _; rfl):PT X e (tB t):=by
 intro pins s σ H Q I hw
 refine isTrue_plain (thn (h pins s σ H _ I hw) fun v s1 ⟨x,H1,I1,r1,q1⟩=>?_) (he _)
 obtain ⟨d,rfl,q⟩:=q1
 cases r1
 exact wpAny_truthy_bool ⟨H1,I1,q⟩
variable {tA tB':TT} {rest:List Expr}
def tAnd (t u:TT):TT:=fun σ H Q=>t σ H fun c H1=>if c=true then u σ H1 Q else Q false H1
def tOr (t u:TT):TT:=fun σ H Q=>t σ H fun c H1=>if c=true then Q true H1 else u σ H1 Q
def tNot (t:TT):TT:=fun σ H Q=>t σ H fun c H1=>Q (!c) H1
theorem pw_and1 (ha:PT X a tA):PW X (.BoolOp .And [a] pos) tA:=by
 intro wh pins s σ H Q I h
 refine isTrue_and (thn (ha pins s σ H Q I h) fun c s1 e=>?_)
 cases c with
 | true=>exact isTrue_and_nil e
 | false=>exact e
theorem pw_or1 (ha:PT X a tA):PW X (.BoolOp .Or [a] pos) tA:=by
 intro wh pins s σ H Q I h
 refine isTrue_or (thn (ha pins s σ H Q I h) fun c s1 e=>?_)
 cases c with
 | false=>exact isTrue_or_nil e
 | true=>exact e
theorem pw_and (ha:PT X a tA) (hb:PW X (.BoolOp .And (b :: rest) pos) tB'):PW X (.BoolOp .And (a :: b :: rest) pos) (tAnd tA tB'):=by
 intro wh pins s σ H Q I h
 refine isTrue_and (thn (ha pins s σ H _ I h) fun c s1 ⟨H1,I1,q1⟩=>?_)
 cases c with
 | true=>exact hb wh pins s1 σ H1 Q I1 q1
 | false=>exact ⟨H1,I1,q1⟩
theorem pw_or (ha:PT X a tA) (hb:PW X (.BoolOp .Or (b :: rest) pos) tB'):PW X (.BoolOp .Or (a :: b :: rest) pos) (tOr tA tB'):=by
 intro wh pins s σ H Q I h
 refine isTrue_or (thn (ha pins s σ H _ I h) fun c s1 ⟨H1,I1,q1⟩=>?_)
 cases c with
 | true=>exact ⟨H1,I1,q1⟩
 | false=>exact hb wh pins s1 σ H1 Q I1 q1
theorem pt_not (ha:PT X a tA):PT X (.UnaryOp .Not a pos) (tNot tA):=by
 intro pins s σ H Q I h
 exact isTrue_not (ha pins s σ H (fun c H1=>Q (!c) H1) I h)
def tAndV (ta tb:TE):TE:=fun σ H Q=>ta σ H fun x H1=>∃ c,x=.bl c/\if c=true then tb σ H1 Q else Q (.bl false) H1
def tOrV (ta tb:TE):TE:=fun σ H Q=>ta σ H fun x H1=>∃ c,x=.bl c/\if c=true then Q (.bl true) H1 else tb σ H1 Q
def tNotV (ta:TE):TE:=fun σ H Q=>ta σ H fun x H1=>∃ c,x=.bl c/\Q (.bl (!c)) H1
theorem pe_one {op} {t:TE} (h:PE X a t):PE X (.BoolOp op [a] pos) t:=fun pins s σ H Q I hw=>BoolOp_one (h pins s σ H Q I hw)
theorem pe_and (ha:PE X a ta) (hb:PE X (.BoolOp .And (b :: rest) pos) tb):PE X (.BoolOp .And (a :: b :: rest) pos) (tAndV ta tb):=by
 intro pins s σ H Q I h
 refine BoolOp_and (thn (ha pins s σ H _ I h) fun v s1 ⟨x,H1,I1,r1,q1⟩=>?_)
 obtain ⟨c,rfl,q1⟩:=q1
 cases r1
 refine wpAny_truthy_bool ?_
 cases c with
 | true=>exact hb pins s1 σ H1 Q I1 q1
 | false=>exact ⟨.bl false,H1,I1,rfl,q1⟩
theorem pe_or (ha:PE X a ta) (hb:PE X (.BoolOp .Or (b :: rest) pos) tb):PE X (.BoolOp .Or (a :: b :: rest) pos) (tOrV ta tb):=by
 intro pins s σ H Q I h
 refine BoolOp_or (thn (ha pins s σ H _ I h) fun v s1 ⟨x,H1,I1,r1,q1⟩=>?_)
 obtain ⟨c,rfl,q1⟩:=q1
 cases r1
 refine wpAny_truthy_bool ?_
 cases c with
 | false=>exact hb pins s1 σ H1 Q I1 q1
 | true=>exact ⟨.bl true,H1,I1,rfl,q1⟩
theorem pe_not (ha:PE X a ta):PE X (.UnaryOp .Not a pos) (tNotV ta):=by
 intro pins s σ H Q I h
 refine UnaryOp_ (thn (ha pins s σ H _ I h) fun v s1 ⟨x,H1,I1,r1,q1⟩=>?_)
 obtain ⟨c,rfl,q1⟩:=q1
 cases r1
 exact not_of (wpAny_truthy_bool ⟨.bl (!c),H1,I1,rfl,q1⟩)
end
end L2
namespace L2
open PySem PySem.Spec PyProof.Rows
def SqL (K:PySem.W.Frag) (H:Hp) (a:Addr) (xs:List V):Prop:=
 Rd H a (.lst xs) \/
  ∃ (o:Obj) (its:Array Value) (n:Nat),K.lookup a=some o/\o.cls=.type "list"/\o.dict=none/\o.data=.seq its n/\its.size<=sizeLine/\Vals xs its.toList
def SqT (K:PySem.W.Frag) (H:Hp) (a:Addr) (xs:List V):Prop:=
 Rd H a (.tup xs) \/
  ∃ (o:Obj) (its:Array Value) (n:Nat),K.lookup a=some o/\o.cls=.type "tuple"/\o.data=.seq its n/\its.size<=sizeLine/\Vals xs its.toList
def absV:Value->Option V
 | .none=>some .non
 | .bool b=>some (.bl b)
 | .int i _=>some (.int i)
 | .str x _=>some (.str x)
 | .bytes b _=>some (.byt b)
 | .float b _=>some (.flt b)
 | .ref a=>some (.ref a)
 | .type n=>some (.ty n)
 | _=>none
theorem RelV.abs {x:V} {u:Value} (r:RelV x u):absV u=some x:=by
 cases x with
 | non=>cases r; rfl
 | bl _=>cases r; rfl
 | int _=>obtain ⟨t,rfl⟩:=r; rfl
 | str _=>obtain ⟨t,rfl⟩:=r; rfl
 | byt _=>obtain ⟨t,rfl⟩:=r; rfl
 | flt _=>obtain ⟨t,rfl⟩:=r; rfl
 | ref _=>cases r; rfl
 | ty _=>cases r; rfl
theorem RelV.inj {x y:V} {u:Value} (r:RelV x u) (q:RelV y u):x=y:=Option.some.inj (r.abs.symm.trans q.abs)
theorem Vals.inj:∀ {xs ys:List V} {us:List Value},Vals xs us->Vals ys us->xs=ys
 | _,_,_,.nil,.nil=>rfl
 | _,_,_,.cons r t,.cons r' t'=>by rw [r.inj r',Vals.inj t t']
section
variable {X:Cx} {pins:List (Addr × Obj)} {σ:St} {H:Hp} {s:Shared} {a:Addr} {xs ys:List V}
theorem SqL.of {K:PySem.W.Frag} (h:H a=some (.lst xs)):SqL K H a xs:=.inl (.inl h)
theorem SqT.of {K:PySem.W.Frag} (h:H a=some (.tup xs)):SqT K H a xs:=.inl (.inl h)
theorem Inv.list (I:Inv X pins σ H s) (h:SqL X.K H a xs):∃ its:List Value,Vals xs its/\PlainL s.heap a its.toArray/\xs.length<=sizeLine:=by
 rcases h with h | ⟨o,its,n,hk,hc,hd,hs,hz,r⟩
 ·obtain ⟨z,its,n,r,e⟩:=h.ok I.hok
  exact ⟨its,r,⟨_,n,e,rfl,rfl,rfl⟩,z⟩
 ·refine ⟨its.toList,r,⟨o,n,I.kIn a o hk,hc,hd,by simpa using hs⟩,?_⟩
  have e:=r.length
  simp only [Array.length_toList] at e
  (first|lia|omega)
theorem Inv.tuple (I:Inv X pins σ H s) (h:SqT X.K H a xs):∃ its:List Value,Vals xs its/\IsTup s.heap a its.toArray/\xs.length<=sizeLine:=by
 rcases h with h | ⟨o,its,n,hk,hc,hs,hz,r⟩
 ·obtain ⟨z,its,r,p,_⟩:=h.ok I.hok
  exact ⟨its,r,p,z⟩
 ·refine ⟨its.toList,r,⟨o,I.kIn a o hk,hc,n,by simpa using hs⟩,?_⟩
  have e:=r.length
  simp only [Array.length_toList] at e
  (first|lia|omega)
theorem Inv.list_inj (I:Inv X pins σ H s) (h:SqL X.K H a xs) (h':SqL X.K H a ys):xs=ys:=by
 obtain ⟨its,r,⟨o,n,e,_,_,d⟩,_⟩:=I.list h
 obtain ⟨its',r',⟨o',n',e',_,_,d'⟩,_⟩:=I.list h'
 rw [e] at e'; cases e'
 rw [d] at d'
 injection d' with d1 _
 have:its=its':=by simpa using congrArg Array.toList d1
 subst this
 exact r.inj r'
theorem Inv.tuple_inj (I:Inv X pins σ H s) (h:SqT X.K H a xs) (h':SqT X.K H a ys):xs=ys:=by
 obtain ⟨its,r,⟨o,e,_,n,d⟩,_⟩:=I.tuple h
 obtain ⟨its',r',⟨o',e',_,n',d'⟩,_⟩:=I.tuple h'
 rw [e] at e'; cases e'
 rw [d] at d'
 injection d' with d1 _
 have:its=its':=by simpa using congrArg Array.toList d1
 subst this
 exact r.inj r'
end
abbrev Cx.wish (X:Cx) (E:Value->Shared->Prop):Cx:={ X with xe:=E }
abbrev Cx.nox (X:Cx):Cx:=X.wish fun _ _=>False
theorem Cx.Ok.wish {X:Cx} (ok:X.Ok) (E:Value->Shared->Prop):(X.wish E).Ok:=
 ⟨ok.mod,ok.kind,ok.glob,ok.blt,ok.above,ok.inj,ok.has,ok.cab,ok.hd,ok.frames,ok.stk,ok.exf,ok.bs,ok.bsz,ok.noex,ok.exfs,ok.funs,ok.frf⟩
theorem Cx.Ok.unwish {X:Cx} {E:Value->Shared->Prop} (ok:(X.wish E).Ok):X.Ok:=
 ⟨ok.mod,ok.kind,ok.glob,ok.blt,ok.above,ok.inj,ok.has,ok.cab,ok.hd,ok.frames,ok.stk,ok.exf,ok.bs,ok.bsz,ok.noex,ok.exfs,ok.funs,ok.frf⟩
section
variable {X:Cx} {pins:List (Addr × Obj)} {σ:St} {H:Hp} {s:Shared} {E:Value->Shared->Prop}
theorem Inv.wish (I:Inv X pins σ H s) (E:Value->Shared->Prop):Inv (X.wish E) pins σ H s:=⟨I.ok.wish E,I.os,I.bare,I.base,I.loc,I.cell,I.free,I.freeC,I.pin,I.hok,I.len⟩
theorem Inv.unwish (I:Inv (X.wish E) pins σ H s):Inv X pins σ H s:=⟨I.ok.unwish,I.os,I.bare,I.base,I.loc,I.cell,I.free,I.freeC,I.pin,I.hok,I.len⟩
theorem SP.unwish {D:Ends} {f:Flow} {s':Shared} (h:SP (X.wish E) pins D f s'):SP X pins D f s':=by
 cases f with
 | next=>obtain ⟨σ',H',I,q⟩:=h; exact ⟨σ',H',I.unwish,q⟩
 | brk=>obtain ⟨σ',H',I,q⟩:=h; exact ⟨σ',H',I.unwish,q⟩
 | cont=>obtain ⟨σ',H',I,q⟩:=h; exact ⟨σ',H',I.unwish,q⟩
 | ret u=>obtain ⟨v,σ',H',I,r,q⟩:=h; exact ⟨v,σ',H',I.unwish,r,q⟩
theorem PSs.nox {st:List Stmt} {t:TS} (h:PSs X.nox st t):PSs X st t:=fun pins s σ H D I hw=>
 wpAny_mono (h pins s σ H D (I.wish _) hw) (fun _ _ q=>q.unwish) fun _ _ z=>False.elim z
end
section
variable {X:Cx} {st:Stmt} {rest:List Stmt} {t u:TS} {e:Expr} {te:TE} {pos:Pos}
def tNext:TS:=fun D σ H=>D.nx σ H
def tSeq (t u:TS):TS:=fun D σ H=>t { D with nx:=u D } σ H
theorem pss_nil:PSs X [] tNext:=fun _ _ σ H _ I h=>wpAny_execs_nil ⟨σ,H,I,h⟩
theorem pss_cons (h1:PS X st t) (h2:PSs X rest u):PSs X (st :: rest) (tSeq t u):=by
 intro pins s σ H D I h
 refine wpAny_execs_cons (thn (h1 pins s σ H { D with nx:=u D } I h) fun f s1 q=>?_)
 cases f with
 | next=>
  obtain ⟨σ',H',I',q⟩:=q
  exact h2 pins s1 σ' H' D I' q
 | ret v=>exact q
 | brk=>exact q
 | cont=>exact q
theorem pss_one (h1:PS X st t):PSs X [st] t:=by
 intro pins s σ H D I h
 refine wpAny_execs_cons (thn (h1 pins s σ H D I h) fun f s1 q=>?_)
 cases f with
 | next=>exact wpAny_execs_nil q
 | ret v=>exact q
 | brk=>exact q
 | cont=>exact q
theorem Inv.quiet {pins:List (Addr × Obj)} {σ:St} {H:Hp} {s:Shared} (I:Inv X pins σ H s):interactive X.env=false:=by simp [interactive,I.ok.kind]
def tDrop (te:TE):TS:=fun D σ H=>te σ H fun _ H1=>D.nx σ H1
theorem ps_expr (he:PE X e te) (hs:swapsWith e none pos.line X.env=pure false:=by rfl):PS X (.Expr e pos) (tDrop te):=by
 intro pins s σ H D I h
 exact wpAny_Expr_any (thn (he pins s σ H _ I h) fun v s1 ⟨x,H1,I1,r1,q1⟩=>⟨σ,H1,I1,q1⟩) I.quiet hs
def tRet (te:TE):TS:=fun D σ H=>te σ H D.rt
theorem ps_ret (he:PE X e te):PS X (.Return (some e) pos) (tRet te):=by
 intro pins s σ H D I h
 exact wpAny_Return_some (thn (he pins s σ H _ I h) fun v s1 ⟨x,H1,I1,r1,q1⟩=>⟨x,σ,H1,I1,r1,q1⟩)
def tIfS (c:TT) (t u:TS):TS:=fun D σ H=>c σ H fun b H1=>if b=true then t D σ H1 else u D σ H1
theorem ps_if {c:Expr} {a b:List Stmt} {tc:TT} (hc:PT X c tc) (ha:PSs X a t) (hb:PSs X b u):PS X (.If c a b pos) (tIfS tc t u):=by
 intro pins s σ H D I h
 refine wpAny_If (thn (hc pins s σ H _ I h) fun d s1 ⟨H1,I1,q1⟩=>?_)
 cases d with
 | true=>exact ha pins s1 σ H1 D I1 q1
 | false=>exact hb pins s1 σ H1 D I1 q1
def tNever:TS:=fun _ _ _=>False
theorem pss_never {sts:List Stmt}:PSs X sts tNever:=fun _ _ _ _ _ _ h=>h.elim
end
abbrev TG:=V->St->Hp->(St->Hp->Prop)->Prop
abbrev TGs:=List V->St->Hp->(St->Hp->Prop)->Prop
def PG (X:Cx) (target:Expr) (t:TG):Prop:=
 ∀ (pins:List (Addr × Obj)) (s:Shared) (σ:St) (H:Hp) (v:V) (u:Value) (Q:St->Hp->Prop),Inv X pins σ H s->RelV v u->t v σ H Q ->
  wpAny (model X.prog X.w) X.A (assign target X.env u) (fun _ s'=>∃ σ' H',Inv X pins σ' H' s'/\Q σ' H') X.xe s
def PGs (X:Cx) (ts:List Expr) (t:TGs):Prop:=
 ∀ (pins:List (Addr × Obj)) (s:Shared) (σ:St) (H:Hp) (vs:List V) (us:List Value) (Q:St->Hp->Prop),Inv X pins σ H s->Vals vs us->t vs σ H Q ->
  wpAny (model X.prog X.w) X.A (assignInOrder ((assignEach ts X.env).map (·.2)) us) (fun _ s'=>∃ σ' H',Inv X pins σ' H' s'/\Q σ' H') X.xe s
section
variable {X:Cx} {pos:Pos}
def gName (i:Nat):TG:=fun v σ H Q=>Q (σ.set i (some v)) H
theorem pg_name {i:Nat} {x:Str} (hN:X.N.Nodup) (hi:X.N[i]? = some x) (hx:Loc X.env.scope x) (hf:X.fn x=true\/X.env.scope.names.lookup x=some .local:=by first | exact .inl rfl | exact .inr rfl | assumption):PG X (.Name x pos) (gName i):=by
 intro pins s σ H v u Q I r h
 exact wpAny_assign_Name (store_ok I hN hi hx r (fun s' I'=>⟨_,H,I',h⟩) hf)
def gNil:TGs:=fun vs σ H Q=>vs=[]/\Q σ H
def gCons (t:TG) (u:TGs):TGs:=fun vs σ H Q=>∃ v r,vs=v :: r/\t v σ H fun σ' H'=>u r σ' H' Q
theorem pgs_nil:PGs X [] gNil:=by
 intro pins s σ H vs us Q I r h
 obtain ⟨e,h⟩:=h
 subst e
 cases r
 exact assignInOrder_nil ⟨σ,H,I,h⟩
theorem pgs_cons {e:Expr} {es:List Expr} {t:TG} {u:TGs} (h1:PG X e t) (h2:PGs X es u)
  (hs:(assignEach (e :: es) X.env).map (·.2)=assign e X.env :: (assignEach es X.env).map (·.2):=by rfl):PGs X (e :: es) (gCons t u):=by
 intro pins s σ H vs us Q I r h
 obtain ⟨v,vr,e1,h⟩:=h
 subst e1
 cases r with
 | cons r rr=>
  rw [hs]
  refine assignInOrder_cons (thn (h1 pins s σ H _ _ _ I r h) fun _ s1 ⟨σ1,H1,I1,q1⟩=>?_)
  exact h2 pins s1 σ1 H1 _ _ Q I1 rr q1
def gTup (K:PySem.W.Frag) (n:Nat) (t:TGs):TG:=fun v σ H Q=>∃ a xs,v=.ref a/\SqT K H a xs/\xs.length=n/\t xs σ H Q
theorem pg_tup {es:List Expr} {k:Nat} {t:TGs} {n:Nat} (hc:X.calm=true) (h:PGs X es t)
  (hn:(assignEach es X.env).length=n:=by rfl) (hst:(assignEach es X.env).findIdx? (·.1)=none:=by rfl):PG X (.Tuple es k pos) (gTup X.K n t):=by
 intro pins s σ H v u Q I r hw
 obtain ⟨a,xs,e1,hq,hl,hw⟩:=hw
 subst e1
 cases r
 obtain ⟨its,rv,ht,hz⟩:=I.tuple hq
 refine assign_Tuple_tuple (I.ok.hd hc) ht (by simp [hn,<-hl,rv.length]) hst fun h' hx=>?_
 have I1:Inv X pins σ H { s with heap:=h' }:=I.kept (t':=s.toks) fun b o e=>hx b o (Nat.ne_of_lt (Heap.lt_size e)) e
 exact h pins _ σ H xs _ Q I1 (by simpa using rv) hw
def tAsg (te:TE) (g:TG):TS:=fun D σ H=>te σ H fun x H1=>g x σ H1 D.nx
theorem ps_asg {tg e:Expr} {te:TE} {g:TG} (he:PE X e te) (hg:PG X tg g) (hs:swapsWithSole [tg] e pos.line X.env=pure false:=by rfl) (hw:swappedStores [tg] e X.env=pure none:=by rfl)
  (h1:(assignEach [tg] X.env).map (·.2)=[assign tg X.env]:=by rfl):PS X (.Assign [tg] e pos) (tAsg te g):=by
 intro pins s σ H D I h
 refine wpAny_Assign_stores (thn (he pins s σ H _ I h) fun v s1 ⟨x,H1,I1,r1,q1⟩=>?_) hs hw
 rw [h1]
 exact thn (hg pins s1 σ H1 x v _ I1 r1 q1) fun _ s2 q=>q
theorem ps_set {i:Nat} {x:Str} {e:Expr} {te:TE} {pos':Pos} (hN:X.N.Nodup) (hi:X.N[i]? = some x) (hx:Loc X.env.scope x) (he:PE X e te) (hs:swapsWith e (some (.Name x pos')) pos.line X.env=pure false:=by rfl) (hf:X.fn x=true\/X.env.scope.names.lookup x=some .local:=by first | exact .inl rfl | exact .inr rfl | assumption) :
  PS X (.Assign [.Name x pos'] e pos) (tAsg te (gName i)):=by
 intro pins s σ H D I h
 refine wpAny_Assign_Name (thn (he pins s σ H _ I h) fun v s1 ⟨y,H1,I1,r1,q1⟩=>?_) hs
 exact store_ok I1 hN hi hx r1 (fun s2 I2=>⟨_,H1,I2,q1⟩) hf
end
section
variable {X:Cx} {pos:Pos}
def tWhile (c:TT) (tb:TS):TS:=fun D σ H=>∃ W:Nat->St->Hp->Prop,(∃ m,W m σ H)/\∀ m σ H,W m σ H ->
 c σ H fun b H1=>if b=true then ∃ N:St->Hp->Prop,(∀ σ' H',N σ' H'->∃ m',m' < m/\W m' σ' H')/\tb { D with nx:=N,ct:=N,bk:=D.nx } σ H1 else D.nx σ H1
theorem ps_while {c:Expr} {body:List Stmt} {tc:TT} {tb:TS} (hp:PassesOwn (model X.prog X.w) X.A X.env X.xe) (hc:PT X c tc) (hb:PSs X body tb):PS X (.While c body [] pos) (tWhile tc tb):=by
 intro pins s σ H D I h
 obtain ⟨W,⟨m0,w0⟩,turn⟩:=h
 refine wpAny_While (codeAny_whileLoop (fun n s'=>∃ σ' H',Inv X pins σ' H' s'/\W n σ' H') ?_ m0 ⟨σ,H,I,w0⟩)
 rintro n s1 ⟨σ1,H1,I1,w1⟩
 refine wpAny_passesOwn hp (thn (hc pins s1 σ1 H1 _ I1 (turn n σ1 H1 w1)) fun b s2 ⟨H2,I2,q2⟩=>?_)
 cases b with
 | true=>
  obtain ⟨N,hN,q2⟩:=q2
  rw [if_pos rfl]
  refine wpAny_passesOwn hp (thn (hb pins s2 σ1 H2 _ I2 q2) fun f s3 q3=>?_)
  cases f with
  | next=>
   obtain ⟨σ3,H3,I3,n3⟩:=q3
   obtain ⟨m',hm,w3⟩:=hN σ3 H3 n3
   exact ⟨m',hm,σ3,H3,I3,w3⟩
  | cont=>
   obtain ⟨σ3,H3,I3,n3⟩:=q3
   obtain ⟨m',hm,w3⟩:=hN σ3 H3 n3
   exact ⟨m',hm,σ3,H3,I3,w3⟩
  | brk=>exact q3
  | ret v=>exact q3
 | false=>
  rw [if_neg Bool.false_ne_true]
  exact wpAny_execs_nil ⟨σ1,H2,I2,q2⟩
end
structure It where
 go:Nat->Hp->Prop
 yld:Nat->Hp->V->Hp->Prop
 stop:Nat->Hp->Prop
def FpOk (X:Cx) (pins:List (Addr × Obj)) (H:Hp) (b:Addr):Prop:=
 H b=none/\b ≠ X.env.locals/\b ∉ X.fs/\(b ∈ X.ex\/X.s₀.heap.objs.size<=b)/\(∀ x c,X.env.cells.lookup x=some c->c ≠ b)/\∀ p ∈ X.pn ++ pins,p.1 ≠ b
theorem Inv.fpOk {X:Cx} {pins:List (Addr × Obj)} {σ:St} {H H':Hp} {s:Shared} {b:Addr} (I:Inv X pins σ H s) (hb:s.heap.objs.size<=b) (hn:H' b=none):FpOk X pins H' b:=by
 refine ⟨hn,Nat.ne_of_gt (Nat.lt_of_lt_of_le I.lt hb),I.nofs hb,.inr (Nat.le_trans I.sz hb),fun x c e z=>?_,fun p hp z=>?_⟩
 ·obtain ⟨v,q⟩:=I.cell x c e
  exact absurd (Nat.lt_of_lt_of_le q.lt (by rw [z]; exact hb)) (Nat.lt_irrefl _)
 ·exact absurd (Nat.lt_of_lt_of_le (Heap.lt_size (I.pin p hp).1) (by rw [z]; exact hb)) (Nat.lt_irrefl _)
structure Turn (P:Program) (w:World) (K:PySem.W.Frag) (tg:Expr) (J:It) (fp:List Addr) (it:Addr) (tn:Nat->Heap->Prop):Prop where
 mem:it ∈ fp
 obj:∀ i h,tn i h->∀ b ∈ fp,∃ o,h.get? b=some o/\∀ v,o.data ≠ .cell v
 keep:∀ i h h',tn i h->(∀ b ∈ fp,∀ o,h.get? b=some o->h'.get? b=some o)->tn i h'
 item:∀ (X:Cx),X.prog=P->X.w=w->X.K=K->X.calm=true->∀ (i:Nat) (pins:List (Addr × Obj)) (s:Shared) (σ:St) (H:Hp) (E:Value->Shared->Prop),Inv X pins σ H s->(∀ b ∈ fp,FpOk X pins H b)->tn i s.heap->J.go i H ->
  wpAny (model P w) X.A (pyNext (.ref it)) (fun r s1=>∃ u,r=some u /\
   wpAny (model P w) X.A (letOwnedTupleGo tg (.ref it) u) (fun _ s2=>∃ x H',Inv X pins σ H' s2/\RelV x u/\J.yld i H x H'/\tn (i + 1) s2.heap/\∀ b ∈ fp,H' b=none) E s1) E s
 done:∀ (X:Cx),X.prog=P->X.w=w->X.K=K->X.calm=true->∀ (i:Nat) (pins:List (Addr × Obj)) (s:Shared) (σ:St) (H:Hp) (E:Value->Shared->Prop),Inv X pins σ H s->(∀ b ∈ fp,FpOk X pins H b)->tn i s.heap->J.stop i H ->
  wpAny (model P w) X.A (pyNext (.ref it)) (fun r s1=>r=none/\Inv X pins σ H s1) E s
 self:∀ (A:Around) (i:Nat) (s:Shared) (Q:Value->Shared->Prop) (E:Value->Shared->Prop),tn i s.heap->Q (.ref it) s->wpAny (model P w) A (pyIter (.ref it)) Q E s
abbrev TI:=St->Hp->(It->Hp->Prop)->Prop
def PIE (X:Cx) (pins:List (Addr × Obj)) (σ:St) (tg:Expr) (R:It->Hp->Prop) (itv:Value) (s2:Shared):Prop:=
 ∃ (it:Addr) (fp:List Addr) (tn:Nat->Heap->Prop) (J:It) (H':Hp),itv=.ref it/\Inv X pins σ H' s2/\Turn X.prog X.w X.K tg J fp it tn/\tn 0 s2.heap/\(∀ b ∈ fp,FpOk X pins H' b)/\R J H'
def PI (X:Cx) (tg iter:Expr) (wi:TI):Prop:=
 ∀ (pins:List (Addr × Obj)) (s:Shared) (σ:St) (H:Hp) (R:It->Hp->Prop),Inv X pins σ H s->wi σ H R ->
  wpAny (model X.prog X.w) X.A (eval iter X.env) (fun v s1=>wpAny (model X.prog X.w) X.A (pyIter v) (PIE X pins σ tg R) X.xe s1) X.xe s
theorem go_of {M:Model} {A:Around} {E:Value->Shared->Prop} {s:Shared} {tg:Expr} {it:Addr} {u:Value} {o:Obj} {n:String} {vs:Array Value} {Q:Unit->Shared->Prop} (ho:s.heap.get? it=some o) (hc:o.cls=.type n) (hd:o.data=.fields vs)
  (hn:["enumerate","zip","dict_itemiterator","dict_reverseitemiterator","odict_iterator","itertools.zip_longest","itertools.pairwise"].contains n=false) (hQ:Q () s):wpAny M A (letOwnedTupleGo tg (.ref it) u) Q E s:=by
 unfold letOwnedTupleGo
 cases tg <;> first
  | exact wpAny_pure hQ
  | (cases u <;> first
    | exact wpAny_pure hQ
    | (refine wpAny_bind (wpAny_load ho ?_)
       rw [hc,hd]
       show wpAny M A (if (["enumerate","zip","dict_itemiterator","dict_reverseitemiterator","odict_iterator","itertools.zip_longest","itertools.pairwise"].contains n && vs[0]? == some (rawInt _))=true then _ else _) Q E s
       rw [if_neg (by intro h; rw [hn,Bool.false_and] at h; cases h)]
       exact wpAny_pure hQ))
def Itl (K:PySem.W.Frag) (a:Addr):It:=
 ⟨fun i H=>∃ xs x,SqL K H a xs/\xs[i]? = some x,fun i H x H'=>H'=H/\∀ xs,SqL K H a xs->xs[i]? = some x,fun i H=>∃ xs,SqL K H a xs/\xs.length<=i⟩
def Itt (K:PySem.W.Frag) (a:Addr):It:=
 ⟨fun i H=>∃ xs x,SqT K H a xs/\xs[i]? = some x,fun i H x H'=>H'=H/\∀ xs,SqT K H a xs->xs[i]? = some x,fun i H=>∃ xs,SqT K H a xs/\xs.length<=i⟩
def Itr (lo:Int) (n:Nat):It:=⟨fun i _=>i < n,fun i H x H'=>H'=H/\x=.int (lo + i),fun i _=>n<=i⟩
theorem turn_list {P:Program} {w:World} {K:PySem.W.Frag} {tg:Expr} (a it:Addr):Turn P w K tg (Itl K a) [it] it (fun i h=>h.IsListIter it a i) where
 mem:=by simp
 obj:=fun i h st b hb=>by
  have e:b=it:=by simpa using hb
  subst e
  obtain ⟨o,e,c,d⟩:=st
  exact ⟨o,e,fun v z=>by rw [d] at z; cases z⟩
 keep:=fun i h h' st k=>st.at fun o e=>k it (by simp) o e
 item:=by
  intro X hP hw hK hc i pins s σ H E I hf st hg
  subst hP hw hK
  obtain ⟨xs,x,hq,hx⟩:=hg
  obtain ⟨its,rv,p,hz⟩:=I.list hq
  obtain ⟨u,hu,ru⟩:=rv.get hx
  obtain ⟨f0,f1,f2,f3,f4,f5⟩:=hf it (by simp)
  refine wpAny_pyNext_list_item st p.isList (x:=u) (by simpa using hu) fun h' st' sb=>?_
  have I1:Inv X pins σ H { s with heap:=h' }:=I.turned (t':=s.toks) (fun b o hb e=>(sb.2 b hb).trans e) f0 f1 f3 f4 f5
  obtain ⟨o,e,c,d⟩:=id st'
  exact ⟨u,rfl,go_of (s:={ s with heap:=h' }) e c d (by decide) ⟨x,H,I1,ru,⟨rfl,fun ys hy=>by rw [I.list_inj hy hq]; exact hx⟩,st',fun b hb=>(hf b hb).1⟩⟩
 done:=by
  intro X hP hw hK hc i pins s σ H E I hf st hg
  subst hP hw hK
  obtain ⟨xs,hq,hx⟩:=hg
  obtain ⟨its,rv,p,hz⟩:=I.list hq
  obtain ⟨f0,f1,f2,f3,f4,f5⟩:=hf it (by simp)
  have hl:=rv.length
  exact wpAny_pyNext_list_end (I.ok.hd hc) st p.isList (by simp; (first|lia|omega)) fun h' eb=>⟨rfl,I.turned (t':=s.toks) (fun b o hb e=>eb b o hb e) f0 f1 f3 f4 f5⟩
 self:=fun _ _ _ _ _ st h=>wpAny_pyIter_listiter st h
theorem turn_tuple {P:Program} {w:World} {K:PySem.W.Frag} {tg:Expr} (a it:Addr):Turn P w K tg (Itt K a) [it] it (fun i h=>h.IsTupleIter it a i) where
 mem:=by simp
 obj:=fun i h st b hb=>by
  have e:b=it:=by simpa using hb
  subst e
  obtain ⟨o,e,c,d⟩:=st
  exact ⟨o,e,fun v z=>by rw [d] at z; cases z⟩
 keep:=fun i h h' st k=>st.at fun o e=>k it (by simp) o e
 item:=by
  intro X hP hw hK hc i pins s σ H E I hf st hg
  subst hP hw hK
  obtain ⟨xs,x,hq,hx⟩:=hg
  obtain ⟨its,rv,p,hz⟩:=I.tuple hq
  obtain ⟨u,hu,ru⟩:=rv.get hx
  obtain ⟨f0,f1,f2,f3,f4,f5⟩:=hf it (by simp)
  refine wpAny_pyNext_tuple_item st (show s.heap.IsTuple a its.toArray from p) (x:=u) (by simpa using hu) fun h' st' sb=>?_
  have I1:Inv X pins σ H { s with heap:=h' }:=I.turned (t':=s.toks) (fun b o hb e=>(sb.2 b hb).trans e) f0 f1 f3 f4 f5
  obtain ⟨o,e,c,d⟩:=id st'
  exact ⟨u,rfl,go_of (s:={ s with heap:=h' }) e c d (by decide) ⟨x,H,I1,ru,⟨rfl,fun ys hy=>by rw [I.tuple_inj hy hq]; exact hx⟩,st',fun b hb=>(hf b hb).1⟩⟩
 done:=by
  intro X hP hw hK hc i pins s σ H E I hf st hg
  subst hP hw hK
  obtain ⟨xs,hq,hx⟩:=hg
  obtain ⟨its,rv,p,hz⟩:=I.tuple hq
  obtain ⟨f0,f1,f2,f3,f4,f5⟩:=hf it (by simp)
  have hl:=rv.length
  exact wpAny_pyNext_tuple_end (I.ok.hd hc) st (show s.heap.IsTuple a its.toArray from p) (by simp; (first|lia|omega)) fun h' eb=>⟨rfl,I.turned (t':=s.toks) (fun b o hb e=>eb b o hb e) f0 f1 f3 f4 f5⟩
 self:=fun _ _ _ _ _ st h=>wpAny_pyIter_tupleiter st h
theorem turn_range {P:Program} {w:World} {K:PySem.W.Frag} {tg:Expr} (it:Addr) (lo:Int) (n:Nat):Turn P w K tg (Itr lo n) [it] it (fun i h=>IsRangeIter h it (lo + (i:Nat) * 1) ((n:Int) - (i:Nat)) 1) where
 mem:=by simp
 obj:=fun i h st b hb=>by
  have e:b=it:=by simpa using hb
  subst e
  exact ⟨_,st,fun v z=>by
   have z':Data.fields _=Data.cell v:=z
   cases z'⟩
 keep:=fun i h h' st k=>k it (by simp) _ st
 item:=by
  intro X hP hw hK hc i pins s σ H E I hf st hg
  subst hP hw hK
  obtain ⟨f0,f1,f2,f3,f4,f5⟩:=hf it (by simp)
  have W:=Walks.range (prog:=X.prog) (w:=X.w) (I.ok.hd hc) it lo 1 n
  refine W.item i s _ _ hg st fun v h' tk hv st' kk=>?_
  obtain ⟨t,rfl⟩:=hv
  have I1:Inv X pins σ H { s with heap:=h',toks:=tk }:=I.turned (fun b o hb e=>kk b o (by simpa using hb) e) f0 f1 f3 f4 f5
  refine ⟨_,rfl,go_of (s:={ s with heap:=h',toks:=tk }) (n:="range_iterator") st' rfl rfl (by decide) ⟨.int (lo + i),H,I1,⟨t,?_⟩,⟨rfl,rfl⟩,st',fun b hb=>(hf b hb).1⟩⟩
  rw [Int.mul_one]
 done:=by
  intro X hP hw hK hc i pins s σ H E I hf st hg
  subst hP hw hK
  obtain ⟨f0,f1,f2,f3,f4,f5⟩:=hf it (by simp)
  exact wpAny_pyNext_range_end (I.ok.hd hc) st (by have:n<=i:=hg; (first|lia|omega)) fun h' eb=>⟨rfl,I.turned (t':=s.toks) (fun b o hb e=>eb b o hb e) f0 f1 f3 f4 f5⟩
 self:=fun _ _ _ _ _ st h=>wpAny_pyIter_rangeiter st h
end L2
namespace L2
open PySem PySem.Spec PyProof.Rows
section
variable {X:Cx} {tg:Expr}
def iList (K:PySem.W.Frag) (tl:TE):TI:=fun σ H R=>tl σ H fun x H1=>∃ a,x=.ref a/\(∃ xs,SqL K H1 a xs)/\R (Itl K a) H1
def iTup (K:PySem.W.Frag) (tl:TE):TI:=fun σ H R=>tl σ H fun x H1=>∃ a,x=.ref a/\(∃ xs,SqT K H1 a xs)/\R (Itt K a) H1
theorem pi_list {l:Expr} {tl:TE} (hl:PE X l tl):PI X tg l (iList X.K tl):=by
 intro pins s σ H R I h
 refine thn (hl pins s σ H _ I h) fun v s1 ⟨x,H1,I1,r1,q1⟩=>?_
 obtain ⟨a,e,⟨xs,hq⟩,q⟩:=q1
 subst e
 cases r1
 obtain ⟨its,rv,p,hz⟩:=I1.list hq
 refine wpAny_pyIter_list p.isList ?_
 refine ⟨s1.heap.objs.size,[s1.heap.objs.size],_,_,H1,rfl,I1.kept (t':=s1.toks) fun b o e=>Heap.get?_push_of_some _ e,turn_list a _,⟨_,Heap.get?_push_size _ rfl,rfl,rfl⟩,fun b hb=>?_,q⟩
 have e:b=s1.heap.objs.size:=by simpa using hb
 subst e
 exact I1.fpOk (Nat.le_refl _) (I1.hok.fresh (Nat.le_refl _))
theorem pi_tup {l:Expr} {tl:TE} (hl:PE X l tl):PI X tg l (iTup X.K tl):=by
 intro pins s σ H R I h
 refine thn (hl pins s σ H _ I h) fun v s1 ⟨x,H1,I1,r1,q1⟩=>?_
 obtain ⟨a,e,⟨xs,hq⟩,q⟩:=q1
 subst e
 cases r1
 obtain ⟨its,rv,p,hz⟩:=I1.tuple hq
 refine wpAny_pyIter_tuple (show s1.heap.IsTuple a its.toArray from p) ?_
 refine ⟨s1.heap.objs.size,[s1.heap.objs.size],_,_,H1,rfl,I1.kept (t':=s1.toks) fun b o e=>Heap.get?_push_of_some _ e,turn_tuple a _,⟨_,Heap.get?_push_size _ rfl,rfl,rfl⟩,fun b hb=>?_,q⟩
 have e:b=s1.heap.objs.size:=by simpa using hb
 subst e
 exact I1.fpOk (Nat.le_refl _) (I1.hok.fresh (Nat.le_refl _))
theorem range_it {pins:List (Addr × Obj)} {σ:St} {H:Hp} {s:Shared} {R:It->Hp->Prop} {E:Value->Shared->Prop} {lo hi:Int} {t u v:Tok} {tk:Nat} (I:Inv X pins σ H s) (h1:-(2 ^ 62)<=lo) (h2:lo < 2 ^ 62) (h3:-(2 ^ 62)<=hi) (h4:hi < 2 ^ 62)
  (q:R (Itr lo (hi - lo).toNat) H):wpAny (model X.prog X.w) X.A (pyIter (.ref s.heap.objs.size)) (PIE X pins σ tg R) E { s with heap:=s.heap.push { cls:=.type "range",data:=.fields #[.int lo t,.int hi u,.int 1 v] },toks:=tk }:=by
 refine wpAny_pyIter_range (IsRange.new ..) (small_one h1 h2 h3 h4) ?_
 have I1:Inv X pins σ H { s with heap:=s.heap.push { cls:=.type "range",data:=.fields #[.int lo t,.int hi u,.int 1 v] },toks:=tk }:=I.kept fun b o e=>Heap.get?_push_of_some _ e
 refine ⟨(s.heap.push { cls:=.type "range",data:=.fields #[.int lo t,.int hi u,.int 1 v] }).objs.size,[(s.heap.push { cls:=.type "range",data:=.fields #[.int lo t,.int hi u,.int 1 v] }).objs.size],_,_,H,rfl,
  I1.kept (t':=tk) fun b o e=>Heap.get?_push_of_some _ e,turn_range _ lo (hi - lo).toNat,?_,fun b hb=>?_,q⟩
 ·have e1:lo + ((0:Nat):Int) * 1=lo:=by simp
  have e2:(((hi - lo).toNat:Nat):Int) - ((0:Nat):Int)=Builtin.Range.rangeSize lo hi 1:=by rw [rangeSize_one]; split <;> (first|lia|omega)
  show IsRangeIter _ _ (lo + ((0:Nat):Int) * 1) ((((hi - lo).toNat:Nat):Int) - ((0:Nat):Int)) 1
  rw [e1,e2]
  exact Heap.get?_push_size _ rfl
 ·have e:b=(s.heap.push { cls:=.type "range",data:=.fields #[.int lo t,.int hi u,.int 1 v] }).objs.size:=by simpa using hb
  subst e
  exact I1.fpOk (Nat.le_refl _) (I1.hok.fresh (Nat.le_refl _))
def iRng1 (ta:TA):TI:=fun σ H R=>ta σ H fun vs H1=>∃ j:Int,vs=[.int j]/\-(2 ^ 62)<=j/\j < 2 ^ 62/\R (Itr 0 j.toNat) H1
theorem pi_range1 {a:Expr} {ta:TA} {p pos:Pos} (hg:Gl X "range") (hm:X.mg "range"=none) (ha:PA X [a] ta) (hs:starEach [a] X.env=[(false,eval a X.env)]:=by rfl):PI X tg (.Call (.Name "range" p) [a] [] pos) (iRng1 ta):=by
 intro pins s σ H R I h
 refine Call_ (ld_blt I hg hm boot_range (PyProof.Rows.callWith_type1 (thn (ha pos pins s σ H _ I h) fun us s1 ⟨vs,H1,I1,r1,q1⟩=>?_) hs rfl))
 obtain ⟨j,e,q1,q2,q⟩:=q1
 subst e
 cases r1 with
 | cons r rr=>
  cases rr
  obtain ⟨t,rfl⟩:=r
  exact call_range_1 (range_it I1 (by (first|lia|omega)) (by (first|lia|omega)) q1 q2 (by simpa using q))
def tFor (wi:TI) (g:TG) (tb:TS):TS:=fun D σ H=>wi σ H fun J H1=>∃ W:Nat->Nat->St->Hp->Prop,(∃ m,W 0 m σ H1)/\∀ i m σ H,W i m σ H ->
 (J.stop i H/\D.nx σ H)\/(J.go i H/\∃ N:St->Hp->Prop,(∀ σ' H',N σ' H'->∃ m',m' < m/\W (i + 1) m' σ' H')/\∀ x H',J.yld i H x H'->g x σ H' fun σ2 H2=>tb { D with nx:=N,ct:=N,bk:=D.nx } σ2 H2)
def pinsAt (fp:List Addr) (h:Heap):List (Addr × Obj):=fp.filterMap fun b=>(h.get? b).map fun o=>(b,o)
theorem mem_pinsAt {fp:List Addr} {h:Heap} {b:Addr} {o:Obj} (hb:b ∈ fp) (e:h.get? b=some o):(b,o) ∈ pinsAt fp h:=List.mem_filterMap.mpr ⟨b,hb,by rw [e]; rfl⟩
theorem of_pinsAt {fp:List Addr} {h:Heap} {p:Addr × Obj} (hp:p ∈ pinsAt fp h):p.1 ∈ fp/\h.get? p.1=some p.2:=by
 obtain ⟨b,hb,e⟩:=List.mem_filterMap.mp hp
 cases q:h.get? b with
 | none=>rw [q] at e; cases e
 | some o=>
  rw [q] at e
  have e':(b,o)=p:=Option.some.inj e
  subst e'
  exact ⟨hb,q⟩
theorem Inv.pinned {pins:List (Addr × Obj)} {σ:St} {H:Hp} {s:Shared} {fp:List Addr} (I:Inv X pins σ H s) (hf:∀ b ∈ fp,FpOk X pins H b) (ho:∀ b ∈ fp,∃ o,s.heap.get? b=some o/\∀ v,o.data ≠ .cell v):Inv X (pins ++ pinsAt fp s.heap) σ H s:=
 I.pins_of fun p hp=>(List.mem_append.mp hp).elim (fun z=>I.pin p (List.mem_append_right _ z)) fun z=>by
  obtain ⟨hb,e⟩:=of_pinsAt z
  obtain ⟨f0,f1,f2,_⟩:=hf p.1 hb
  obtain ⟨o,e',d⟩:=ho p.1 hb
  rw [e] at e'; cases e'
  exact ⟨e,f0,f1,f2,d⟩
theorem Inv.unpinned {pins pl:List (Addr × Obj)} {σ:St} {H:Hp} {s:Shared} (I:Inv X (pins ++ pl) σ H s):Inv X pins σ H s:=I.pins_of fun p hp=>I.pin p (List.mem_append_right _ (List.mem_append_left _ hp))
theorem ps_for {iter:Expr} {body:List Stmt} {wi:TI} {g:TG} {tb:TS} {pos:Pos} (hp:PassesOwn (model X.prog X.w) X.A X.env X.xe) (hc:X.calm=true) (hi:PI X tg iter wi) (hg:PG X tg g) (hb:PSs X body tb)
  (hs:∀ x,foldedSetIterable iter X.env x=pure x:=by intro _; rfl):PS X (.For tg iter body [] pos) (tFor wi g tb):=by
 intro pins s σ H D I h
 refine wpAny_For (thn (hi pins s σ H _ I h) fun v s1 h1=>thn h1 fun itv s2 h2=>?_) hs
 obtain ⟨it,fp,tn,J,H2,e,I2,T,st2,f2,W,⟨m0,w0⟩,turn⟩:=h2
 subst e
 have stat:∀ {H':Hp},(∀ b ∈ fp,H' b=none)->∀ b ∈ fp,FpOk X pins H' b:=fun hn b hb=>⟨hn b hb,(f2 b hb).2⟩
 refine codeAny_forLoop_any (fun n s'=>∃ i σ' H',Inv X pins σ' H' s'/\tn i s'.heap/\(∀ b ∈ fp,H' b=none)/\W i n σ' H') ?_ m0 ⟨0,σ,H2,I2,st2,fun b hb=>(f2 b hb).1,w0⟩
 rintro n s3 ⟨i,σ3,H3,I3,st3,fr3,w3⟩
 rcases turn i n σ3 H3 w3 with ⟨stop,qn⟩ | ⟨go,N,hN,step⟩
 ·refine wpAny_passesOwn hp (thn (T.done X rfl rfl rfl hc i pins s3 σ3 H3 X.xe I3 (stat fr3) st3 stop) fun r s4 ⟨hr,I4⟩=>?_)
  subst hr
  exact wpAny_execs_nil ⟨σ3,H3,I4,qn⟩
 ·refine wpAny_passesOwn hp (thn (T.item X rfl rfl rfl hc i pins s3 σ3 H3 X.xe I3 (stat fr3) st3 go) fun r s4 ⟨u,hr,h4⟩=>?_)
  subst hr
  refine wpAny_passesOwn hp (thn h4 fun _ s5 ⟨x,H5,I5,r5,y5,st5,fr5⟩=>?_)
  have I5':=I5.pinned (stat fr5) (T.obj _ _ st5)
  refine wpAny_passesOwn hp (thn (hg _ s5 σ3 H5 x u _ I5' r5 (step x H5 y5)) fun _ s6 ⟨σ6,H6,I6,q6⟩=>?_)
  refine wpAny_passesOwn hp (thn (hb _ s6 σ6 H6 _ I6 q6) fun f s7 q7=>?_)
  have again:∀ {σ7:St} {H7:Hp},Inv X (pins ++ pinsAt fp s5.heap) σ7 H7 s7->N σ7 H7->∃ m,m < n/\∃ i σ' H',Inv X pins σ' H' s7/\tn i s7.heap/\(∀ b ∈ fp,H' b=none)/\W i m σ' H':=fun {σ7 H7} I7 n7=>by
   obtain ⟨m',hm,w7⟩:=hN σ7 H7 n7
   refine ⟨m',hm,i + 1,σ7,H7,I7.unpinned,T.keep _ _ _ st5 fun b hb o e=>(I7.pin (b,o) (List.mem_append_right _ (List.mem_append_right _ (mem_pinsAt hb e)))).1,fun b hb=>?_,w7⟩
   obtain ⟨o,e,d⟩:=T.obj _ _ st5 b hb
   exact (I7.pin (b,o) (List.mem_append_right _ (List.mem_append_right _ (mem_pinsAt hb e)))).2.1
  cases f with
  | next=>obtain ⟨σ7,H7,I7,n7⟩:=q7; exact again I7 n7
  | cont=>obtain ⟨σ7,H7,I7,n7⟩:=q7; exact again I7 n7
  | brk=>obtain ⟨σ7,H7,I7,q7⟩:=q7; exact ⟨σ7,H7,I7.unpinned,q7⟩
  | ret v=>obtain ⟨x7,σ7,H7,I7,r7,q7⟩:=q7; exact ⟨x7,σ7,H7,I7.unpinned,r7,q7⟩
end
theorem for_range {lo:Int} {n:Nat} {g:TG} {tb:TS} {D:Ends} {σ:St} {H:Hp} (Pv:Nat->St->Hp->Prop) (h0:Pv 0 σ H)
  (hs:∀ i σ H,i < n->Pv i σ H->g (.int (lo + i)) σ H fun σ2 H2=>tb { D with nx:=Pv (i + 1),ct:=Pv (i + 1),bk:=D.nx } σ2 H2) (hd:∀ σ H,Pv n σ H->D.nx σ H) :
  ∃ W:Nat->Nat->St->Hp->Prop,(∃ m,W 0 m σ H)/\∀ i m σ H,W i m σ H ->
   ((Itr lo n).stop i H/\D.nx σ H)\/((Itr lo n).go i H/\∃ N:St->Hp->Prop,(∀ σ' H',N σ' H'->∃ m',m' < m/\W (i + 1) m' σ' H')/\∀ x H',(Itr lo n).yld i H x H'->g x σ H' fun σ2 H2=>tb { D with nx:=N,ct:=N,bk:=D.nx } σ2 H2):=by
 refine ⟨fun i m σ H=>m=n - i/\i<=n/\Pv i σ H,⟨n,by simp,Nat.zero_le _,h0⟩,?_⟩
 rintro i m σ H ⟨rfl,hi,p⟩
 by_cases hlt:i < n
 ·refine .inr ⟨hlt,Pv (i + 1),fun σ' H' p'=>⟨n - (i + 1),by (first|lia|omega),rfl,hlt,p'⟩,fun x H' y=>?_⟩
  obtain ⟨e,y⟩:=y
  subst e y
  exact hs i σ _ hlt p
 ·have e:i=n:=by (first|lia|omega)
  subst e
  exact .inl ⟨Nat.le_refl _,hd σ H p⟩
theorem while_by {c:TT} {tb:TS} {D:Ends} {σ:St} {H:Hp} (Pv:St->Hp->Prop) (μ:St->Hp->Nat) (h0:Pv σ H)
  (hs:∀ σ H,Pv σ H->c σ H fun b H1=>if b=true then tb { D with nx:=fun σ' H'=>Pv σ' H'/\μ σ' H' < μ σ H,ct:=fun σ' H'=>Pv σ' H'/\μ σ' H' < μ σ H,bk:=D.nx } σ H1 else D.nx σ H1)
  (mono:∀ σ H Q Q',(∀ b H1,Q b H1->Q' b H1)->c σ H Q->c σ H Q'):tWhile c tb D σ H:=by
 refine ⟨fun m σ H=>m=μ σ H/\Pv σ H,⟨_,rfl,h0⟩,?_⟩
 rintro m σ H ⟨rfl,p⟩
 refine mono σ H _ _ (fun b H1 q=>?_) (hs σ H p)
 cases b with
 | true=>exact ⟨_,fun σ' H' ⟨p',l⟩=>⟨_,l,rfl,p'⟩,q⟩
 | false=>exact q
end L2
namespace L2
open PySem PySem.Spec PyProof.Rows
abbrev R2:=V->V->Hp->VK->Prop
def OpR (X:Cx) (f:Value->Value->Sem Value) (r:R2):Prop:=
 ∀ (pins:List (Addr × Obj)) (s:Shared) (σ:St) (H:Hp) (x y:V) (v u:Value) (Q:VK),Inv X pins σ H s->RelV x v->RelV y u->r x y H Q ->
  wpAny (model X.prog X.w) X.A (f v u) (EP X pins σ Q) X.xe s
def UnR (X:Cx) (f:Value->Sem Value) (r:V->Hp->VK->Prop):Prop:=
 ∀ (pins:List (Addr × Obj)) (s:Shared) (σ:St) (H:Hp) (x:V) (v:Value) (Q:VK),Inv X pins σ H s->RelV x v->r x H Q ->
  wpAny (model X.prog X.w) X.A (f v) (EP X pins σ Q) X.xe s
def CallR (X:Cx) (f:Value) (r:List V->Hp->VK->Prop):Prop:=
 ∀ (pins:List (Addr × Obj)) (s:Shared) (σ:St) (H:Hp) (xs:List V) (us:List Value) (Q:VK),Inv X pins σ H s->Vals xs us->r xs H Q ->
  wpAny (model X.prog X.w) X.A (call f us) (EP X pins σ Q) X.xe s
def TruR (X:Cx) (r:V->Hp->(Bool->Hp->Prop)->Prop):Prop:=
 ∀ (pins:List (Addr × Obj)) (s:Shared) (σ:St) (H:Hp) (x:V) (v:Value) (Q:Bool->Hp->Prop),Inv X pins σ H s->RelV x v->r x H Q ->
  wpAny (model X.prog X.w) X.A (truthy v) (TP X pins σ Q) X.xe s
def tOp (r:R2) (ta tb:TE):TE:=fun σ H Q=>ta σ H fun x H1=>tb σ H1 fun y H2=>r x y H2 Q
def tUn (r:V->Hp->VK->Prop) (ta:TE):TE:=fun σ H Q=>ta σ H fun x H1=>r x H1 Q
def rI (C:Int->Int->Prop) (g:Int->Int->V):R2:=fun x y H Q=>∃ i j,x=.int i/\y=.int j/\C i j/\Q (g i j) H
def rI0 (g:Int->Int->V):R2:=fun x y H Q=>∃ i j,x=.int i/\y=.int j/\Q (g i j) H
def rU (g:Int->V):V->Hp->VK->Prop:=fun x H Q=>∃ i,x=.int i/\Q (g i) H
section
variable {X:Cx} {a b c:Expr} {ta tb tc:TE} {pos:Pos}
theorem binT (ha:PE X a ta) (hb:PE X b tb) {pins:List (Addr × Obj)} {s:Shared} {σ:St} {H:Hp} {R:V->V->Hp->Prop} (I:Inv X pins σ H s)
  (h:ta σ H fun x H1=>tb σ H1 fun y H2=>R x y H2) {Q:Value->Shared->Prop} {f:Value->Value->Sem Value}
  (hf:∀ v u s2 x y H2,Inv X pins σ H2 s2->RelV x v->RelV y u->R x y H2->wpAny (model X.prog X.w) X.A (f v u) Q X.xe s2) :
  wpAny (model X.prog X.w) X.A (eval a X.env) (fun v s₁=>wpAny (model X.prog X.w) X.A (eval b X.env) (fun u s₂=>wpAny (model X.prog X.w) X.A (f v u) Q X.xe s₂) X.xe s₁) X.xe s:=by
 refine thn (ha pins s σ H _ I h) fun v s1 ⟨x,H1,I1,r1,q1⟩=>?_
 refine thn (hb pins s1 σ H1 _ I1 q1) fun u s2 ⟨y,H2,I2,r2,q2⟩=>?_
 exact hf v u s2 x y H2 I2 r1 r2 q2
theorem pe_op {op:Operator} {r:R2} (ho:OpR X (binaryOp op) r) (ha:PE X a ta) (hb:PE X b tb):PE X (.BinOp a op b pos) (tOp r ta tb):=by
 intro pins s σ H Q I h
 exact wpAny_BinOp (binT ha hb I h fun v u s2 x y H2 I2 rx ry q=>ho pins s2 σ H2 x y v u Q I2 rx ry q)
theorem pe_un {op:UnaryOp} {r:V->Hp->VK->Prop} (ho:UnR X (unaryOp op) r) (ha:PE X a ta):PE X (.UnaryOp op a pos) (tUn r ta):=by
 intro pins s σ H Q I h
 exact UnaryOp_ (thn (ha pins s σ H _ I h) fun v s1 ⟨x,H1,I1,r1,q1⟩=>ho pins s1 σ H1 x v Q I1 r1 q1)
theorem opI {f:Value->Value->Sem Value} {C:Int->Int->Prop} {g:Int->Int->Int}
  (rule:∀ (i j:Int) (t u:Tok) (s:Shared) (Q:Value->Shared->Prop) (E:Value->Shared->Prop),C i j->Q (.int (g i j) s.toks) { s with toks:=s.toks + 1 }->wpAny (model X.prog X.w) X.A (f (.int i t) (.int j u)) Q E s) :
  OpR X f (rI C fun i j=>.int (g i j)):=by
 intro pins s σ H x y v u Q I rx ry h
 obtain ⟨i,j,rfl,rfl,hc,q⟩:=h
 obtain ⟨t,rfl⟩:=rx
 obtain ⟨t',rfl⟩:=ry
 exact rule i j t t' s _ _ hc ⟨.int (g i j),H,I.tok _,⟨_,rfl⟩,q⟩
theorem opI0 {f:Value->Value->Sem Value} {g:Int->Int->Int}
  (rule:∀ (i j:Int) (t u:Tok) (s:Shared) (Q:Value->Shared->Prop) (E:Value->Shared->Prop),Q (.int (g i j) s.toks) { s with toks:=s.toks + 1 }->wpAny (model X.prog X.w) X.A (f (.int i t) (.int j u)) Q E s) :
  OpR X f (rI0 fun i j=>.int (g i j)):=by
 intro pins s σ H x y v u Q I rx ry h
 obtain ⟨i,j,rfl,rfl,q⟩:=h
 obtain ⟨t,rfl⟩:=rx
 obtain ⟨t',rfl⟩:=ry
 exact rule i j t t' s _ _ ⟨.int (g i j),H,I.tok _,⟨_,rfl⟩,q⟩
theorem opB0 {f:Value->Value->Sem Value} {g:Int->Int->Bool}
  (rule:∀ (i j:Int) (t u:Tok) (s:Shared) (Q:Value->Shared->Prop) (E:Value->Shared->Prop),Q (.bool (g i j)) s->wpAny (model X.prog X.w) X.A (f (.int i t) (.int j u)) Q E s) :
  OpR X f (rI0 fun i j=>.bl (g i j)):=by
 intro pins s σ H x y v u Q I rx ry h
 obtain ⟨i,j,rfl,rfl,q⟩:=h
 obtain ⟨t,rfl⟩:=rx
 obtain ⟨t',rfl⟩:=ry
 exact rule i j t t' s _ _ ⟨.bl (g i j),H,I,rfl,q⟩
def CDiv (i j:Int):Prop:=0 < j/\j < 1073741824
def CPow (i j:Int):Prop:=0<=j/\j<=1000000/\i.natAbs < 2 ^ 64
def CMul (i j:Int):Prop:=(-(2 ^ 64) < i/\i < 2 ^ 64)\/(-(2 ^ 64) < j/\j < 2 ^ 64)
theorem CMul.ok {i j:Int} (h:CMul i j):IntMulOk i j:=by
 rcases h with ⟨h1,h2⟩ | ⟨h1,h2⟩
 ·exact .of_left (intBits_le_64 h1 h2)
 ·exact .of_right (intBits_le_64 h1 h2)
theorem op_add:OpR X (binaryOp .Add) (rI0 fun i j=>.int (i + j)):=opI0 fun _ _ _ _ _ _ _ q=>add_int q
theorem op_sub:OpR X (binaryOp .Sub) (rI0 fun i j=>.int (i - j)):=opI0 fun _ _ _ _ _ _ _ q=>sub_int q
theorem op_mul:OpR X (binaryOp .Mult) (rI CMul fun i j=>.int (i * j)):=opI fun _ _ _ _ _ _ _ hc q=>mul_int q hc.ok
theorem op_fdiv:OpR X (binaryOp .FloorDiv) (rI CDiv fun i j=>.int (i / j)):=opI fun i j _ _ _ _ _ hc q=>by
 have h1:(0:Int) < j:=hc.1
 have h2:j < 1073741824:=hc.2
 exact floordiv_int (by (first|lia|omega)) (by rw [Int.fdiv_eq_ediv_of_nonneg i (by (first|lia|omega))]; exact q) (.inl (PyProof.noPylong_small (by (first|lia|omega))))
theorem op_mod:OpR X (binaryOp .Mod) (rI (fun _ j=>0 < j) fun i j=>.int (i % j)):=opI fun i j _ _ _ _ _ hc q=>by
 have h1:(0:Int) < j:=hc
 exact mod_int' (by (first|lia|omega)) (by rw [Int.fmod_eq_emod_of_nonneg i (by (first|lia|omega))]; exact q)
theorem op_pow:OpR X (binaryOp .Pow) (rI CPow fun i j=>.int (i ^ j.toNat)):=opI fun _ _ _ _ _ _ _ hc q=>pow_int_small hc.1 hc.2.1 hc.2.2 q
theorem unI {f:Value->Sem Value} {g:Int->Int}
  (rule:∀ (i:Int) (t:Tok) (s:Shared) (Q:Value->Shared->Prop) (E:Value->Shared->Prop),Q (.int (g i) s.toks) { s with toks:=s.toks + 1 }->wpAny (model X.prog X.w) X.A (f (.int i t)) Q E s) :
  UnR X f (rU fun i=>.int (g i)):=by
 intro pins s σ H x v Q I rx h
 obtain ⟨i,rfl,q⟩:=h
 obtain ⟨t,rfl⟩:=rx
 exact rule i t s _ _ ⟨.int (g i),H,I.tok _,⟨_,rfl⟩,q⟩
theorem un_neg:UnR X (unaryOp .USub) (rU fun i=>.int (-i)):=unI fun _ _ _ _ _ q=>neg_int q
end
def scal:V->V->Bool
 | .non,.non=>true | .non,.int _=>true | .int _,.non=>true | .non,.bl _=>true | .bl _,.non=>true | .non,.str _=>true | .str _,.non=>true
 | .int _,.int _=>true | .bl _,.bl _=>true | .str _,.str _=>true | .byt _,.byt _=>true
 | .int _,.str _=>true | .str _,.int _=>true | .bl _,.str _=>true | .str _,.bl _=>true
 | _,_=>false
def rEq:R2:=fun x y H Q=>scal x y=true/\Q (.bl (decide (x=y))) H
def rNe:R2:=fun x y H Q=>scal x y=true/\Q (.bl (!decide (x=y))) H
theorem dec_int {i j:Int}:decide (V.int i=V.int j)=(i == j):=by
 rw [Bool.eq_iff_iff]
 simp
theorem dec_bl {i j:Bool}:decide (V.bl i=V.bl j)=(i == j):=by
 rw [Bool.eq_iff_iff]
 simp
theorem dec_str {i j:Str}:decide (V.str i=V.str j)=(i == j):=by
 rw [Bool.eq_iff_iff]
 simp
theorem dec_byt {i j:Array UInt8}:decide (V.byt i=V.byt j)=(i.toList == j.toList):=by
 rw [Bool.eq_iff_iff]
 cases i
 cases j
 simp
section
variable {X:Cx} {a b c:Expr} {ta tb tc:TE} {pos:Pos}
theorem fin_bl {pins:List (Addr × Obj)} {σ:St} {H:Hp} {s:Shared} {Q:VK} {k k':Bool} (I:Inv X pins σ H s) (q:Q (.bl k) H) (e:k=k'):EP X pins σ Q (.bool k') s:=by
 subst e
 exact ⟨.bl k,H,I,rfl,q⟩
theorem op_eq:OpR X (compareOp .Eq) rEq:=by
 intro pins s σ H x y v u Q I rx ry h
 obtain ⟨hs,q⟩:=h
 cases x with
 | non=>
  cases rx
  cases y with
  | non=>cases ry; exact PySem.EqNone.eq_none_none (fin_bl I q (by simp))
  | bl j=>cases ry; exact PySem.EqNone.eq_none_bool (fin_bl I q (by simp))
  | int j=>obtain ⟨t',rfl⟩:=ry; exact PySem.EqNone.eq_none_int (fin_bl I q (by simp))
  | str j=>obtain ⟨t',rfl⟩:=ry; exact PySem.EqNone.eq_none_str (fin_bl I q (by simp))
  | _=>exact absurd (show false=true from hs) Bool.false_ne_true
 | bl i=>
  cases rx
  cases y with
  | non=>cases ry; exact PySem.EqNone.eq_bool_none (fin_bl I q (by simp))
  | bl j=>cases ry; exact eq_bool (fin_bl I q dec_bl)
  | str j=>obtain ⟨t',rfl⟩:=ry; exact PySem.EqMixed.eq_bool_str (fin_bl I q (by simp))
  | _=>exact absurd (show false=true from hs) Bool.false_ne_true
 | int i=>
  obtain ⟨t,rfl⟩:=rx
  cases y with
  | non=>cases ry; exact PySem.EqNone.eq_int_none (fin_bl I q (by simp))
  | int j=>obtain ⟨t',rfl⟩:=ry; exact eq_int (fin_bl I q dec_int)
  | str j=>obtain ⟨t',rfl⟩:=ry; exact PySem.EqMixed.eq_int_str (fin_bl I q (by simp))
  | _=>exact absurd (show false=true from hs) Bool.false_ne_true
 | str i=>
  obtain ⟨t,rfl⟩:=rx
  cases y with
  | non=>cases ry; exact PySem.EqNone.eq_str_none (fin_bl I q (by simp))
  | bl j=>cases ry; exact PySem.EqMixed.eq_str_bool (fin_bl I q (by simp))
  | int j=>obtain ⟨t',rfl⟩:=ry; exact PySem.EqMixed.eq_str_int (fin_bl I q (by simp))
  | str j=>obtain ⟨t',rfl⟩:=ry; exact eq_str (fin_bl I q dec_str)
  | _=>exact absurd (show false=true from hs) Bool.false_ne_true
 | byt i=>
  obtain ⟨t,rfl⟩:=rx
  cases y with
  | byt j=>obtain ⟨t',rfl⟩:=ry; exact PySem.W.eq_bytes (fin_bl I q dec_byt)
  | _=>exact absurd (show false=true from hs) Bool.false_ne_true
 | _=>cases y <;> exact absurd (show false=true from hs) Bool.false_ne_true
theorem op_ne:OpR X (compareOp .NotEq) rNe:=by
 intro pins s σ H x y v u Q I rx ry h
 obtain ⟨hs,q⟩:=h
 cases x with
 | non=>
  cases rx
  cases y with
  | non=>cases ry; exact PySem.EqNone.ne_none_none (fin_bl I q (by simp))
  | bl j=>cases ry; exact PySem.EqNone.ne_none_bool (fin_bl I q (by simp))
  | int j=>obtain ⟨t',rfl⟩:=ry; exact PySem.EqNone.ne_none_int (fin_bl I q (by simp))
  | str j=>obtain ⟨t',rfl⟩:=ry; exact PySem.EqNone.ne_none_str (fin_bl I q (by simp))
  | _=>exact absurd (show false=true from hs) Bool.false_ne_true
 | bl i=>
  cases rx
  cases y with
  | non=>cases ry; exact PySem.EqNone.ne_bool_none (fin_bl I q (by simp))
  | bl j=>cases ry; exact ne_bool (fin_bl I q (congrArg not dec_bl))
  | str j=>obtain ⟨t',rfl⟩:=ry; exact PySem.EqMixed.ne_bool_str (fin_bl I q (by simp))
  | _=>exact absurd (show false=true from hs) Bool.false_ne_true
 | int i=>
  obtain ⟨t,rfl⟩:=rx
  cases y with
  | non=>cases ry; exact PySem.EqNone.ne_int_none (fin_bl I q (by simp))
  | int j=>obtain ⟨t',rfl⟩:=ry; exact ne_int (fin_bl I q (congrArg not dec_int))
  | str j=>obtain ⟨t',rfl⟩:=ry; exact PySem.EqMixed.ne_int_str (fin_bl I q (by simp))
  | _=>exact absurd (show false=true from hs) Bool.false_ne_true
 | str i=>
  obtain ⟨t,rfl⟩:=rx
  cases y with
  | non=>cases ry; exact PySem.EqNone.ne_str_none (fin_bl I q (by simp))
  | bl j=>cases ry; exact PySem.EqMixed.ne_str_bool (fin_bl I q (by simp))
  | int j=>obtain ⟨t',rfl⟩:=ry; exact PySem.EqMixed.ne_str_int (fin_bl I q (by simp))
  | str j=>obtain ⟨t',rfl⟩:=ry; exact ne_str (fin_bl I q (congrArg not dec_str))
  | _=>exact absurd (show false=true from hs) Bool.false_ne_true
 | byt i=>
  obtain ⟨t,rfl⟩:=rx
  cases y with
  | byt j=>obtain ⟨t',rfl⟩:=ry; exact PySem.W.ne_bytes (fin_bl I q (congrArg not dec_byt))
  | _=>exact absurd (show false=true from hs) Bool.false_ne_true
 | _=>cases y <;> exact absurd (show false=true from hs) Bool.false_ne_true
theorem op_lt:OpR X (compareOp .Lt) (rI0 fun i j=>.bl (decide (i < j))):=opB0 fun _ _ _ _ _ _ _ q=>lt_int q
theorem op_le:OpR X (compareOp .LtE) (rI0 fun i j=>.bl (decide (i<=j))):=opB0 fun _ _ _ _ _ _ _ q=>le_int q
theorem op_gt:OpR X (compareOp .Gt) (rI0 fun i j=>.bl (decide (j < i))):=opB0 fun _ _ _ _ _ _ _ q=>gt_int q
theorem op_ge:OpR X (compareOp .GtE) (rI0 fun i j=>.bl (decide (j<=i))):=opB0 fun _ _ _ _ _ _ _ q=>ge_int q
theorem nomark (b:Expr) {op:CmpOp} (h:op ≠ .In:=by decide) (h2:op ≠ .NotIn:=by decide):behindInMarks op b=false:=by
 have e1:(op == CmpOp.In)=false:=by cases op <;> first | rfl | exact absurd rfl h
 have e2:(op == CmpOp.NotIn)=false:=by cases op <;> first | rfl | exact absurd rfl h2
 cases b <;> simp [behindInMarks,e1,e2]
theorem pe_cmpR {op:CmpOp} {r:R2} (ho:OpR X (compareOp op) r) (ha:PE X a ta) (hb:PE X b tb) (hm:behindInMarks op b=false):PE X (.Compare a [op] [b] pos) (tOp r ta tb):=by
 intro pins s σ H Q I h
 exact wpAny_Compare1 (binT ha hb I h fun v u s2 x y H2 I2 rx ry q=>ho pins s2 σ H2 x y v u Q I2 rx ry q) hm
def tTest (t:TE):TT:=fun σ H Q=>t σ H fun x H'=>∃ k,x=.bl k/\Q k H'
theorem pt_cmpR {op:CmpOp} {r:R2} (ho:OpR X (compareOp op) r) (ha:PE X a ta) (hb:PE X b tb) (hm:behindInMarks op b=false):PT X (.Compare a [op] [b] pos) (tTest (tOp r ta tb)):=by
 intro pins s σ H Q I h
 refine wpAny_isTrue_Compare1 (thn (ha pins s σ H _ I h) fun v s1 ⟨x,H1,I1,r1,q1⟩=>thn (hb pins s1 σ H1 _ I1 q1) fun u s2 ⟨y,H2,I2,r2,q2⟩=>
  thn (ho pins s2 σ H2 x y v u _ I2 r1 r2 q2) fun c s3 ⟨z,H3,I3,r3,k,e,q3⟩=>?_) hm
 subst e
 cases r3
 exact wpAny_truthy_bool ⟨H3,I3,q3⟩
def tChain (r r':R2) (ta tb tc:TE):TE:=fun σ H Q=>ta σ H fun x H1=>tb σ H1 fun y H2=>r x y H2 fun z H3=>∃ k,z=.bl k /\
 (if k=true then tc σ H3 fun w' H4=>r' y w' H4 Q else Q (.bl false) H3)
theorem pe_chain {op op':CmpOp} {r r':R2} (ho:OpR X (compareOp op) r) (ho':OpR X (compareOp op') r') (ha:PE X a ta) (hb:PE X b tb) (hc:PE X c tc)
  (hm:lastMarks [op,op'] [b,c]=false:=by with_unfolding_all rfl):PE X (.Compare a [op,op'] [b,c] pos) (tChain r r' ta tb tc):=by
 intro pins s σ H Q I h
 refine Compare_chain (thn (ha pins s σ H _ I h) fun v s1 ⟨x,H1,I1,r1,q1⟩=>chain_link (thn (hb pins s1 σ H1 _ I1 q1) fun u s2 ⟨y,H2,I2,r2,q2⟩=>
  thn (ho pins s2 σ H2 x y v u _ I2 r1 r2 q2) fun d s3 ⟨z,H3,I3,r3,k,e,q3⟩=>?_)) hm
 subst e
 cases r3
 refine wpAny_truthy_bool ?_
 cases k with
 | false=>exact ite_ff ⟨.bl false,H3,I3,rfl,q3⟩
 | true=>exact ite_tt (chain_last (thn (hc pins s3 σ H3 _ I3 q3) fun w' s4 ⟨z',H4,I4,r4,q4⟩=>ho' pins s4 σ H4 y z' u w' Q I4 r2 r4 q4))
theorem pt_chain {op op':CmpOp} {r r':R2} (ho:OpR X (compareOp op) r) (ho':OpR X (compareOp op') r') (ha:PE X a ta) (hb:PE X b tb) (hc:PE X c tc)
  (hm:lastMarks [op,op'] [b,c]=false:=by with_unfolding_all rfl):PT X (.Compare a [op,op'] [b,c] pos) (tTest (tChain r r' ta tb tc)):=by
 intro pins s σ H Q I h
 refine isTrue_chain (thn (ha pins s σ H _ I h) fun v s1 ⟨x,H1,I1,r1,q1⟩=>test_link (thn (hb pins s1 σ H1 _ I1 q1) fun u s2 ⟨y,H2,I2,r2,q2⟩=>
  thn (ho pins s2 σ H2 x y v u _ I2 r1 r2 q2) fun d s3 ⟨z,H3,I3,r3,k,e,q3⟩=>?_)) hm
 subst e
 cases r3
 refine wpAny_truthy_bool ?_
 cases k with
 | false=>
  obtain ⟨k',e',q'⟩:=q3
  cases e'
  exact ite_ff ⟨H3,I3,q'⟩
 | true=>
  refine ite_tt (test_last (thn (hc pins s3 σ H3 _ I3 q3) fun w' s4 ⟨z',H4,I4,r4,q4⟩=>thn (ho' pins s4 σ H4 y z' u w' _ I4 r2 r4 q4) fun d' s5 ⟨z2,H5,I5,r5,k2,e2,q5⟩=>?_))
  subst e2
  cases r5
  exact wpAny_truthy_bool ⟨H5,I5,q5⟩
def TruV (K:PySem.W.Frag) (x:V) (H:Hp) (k:Bool):Prop:=
 match x with
 | .non=>k=false
 | .bl b=>k=b
 | .int i=>k=(i != 0)
 | .str y=>y.length<=sizeLine/\k=((y.length:Int) != 0)
 | .byt y=>y.size<=sizeLine/\k=((y.size:Int) != 0)
 | .ref p=>(∃ xs,SqL K H p xs/\k = !xs.isEmpty)\/(∃ xs,SqT K H p xs/\k = !xs.isEmpty)\/∃ kvs,H p=some (.dK kvs)/\k = !kvs.isEmpty
 | _=>False
theorem isEmpty_kv {κ:Type} {kvs:List (κ × V)} {vs:List (κ × Value)} (r:KV kvs vs):(!vs.isEmpty) = !kvs.isEmpty:=by
 cases r <;> rfl
theorem isEmpty_of {xs:List V} {its:List Value} (r:Vals xs its):(!its.toArray.isEmpty) = !xs.isEmpty:=by
 cases r <;> simp
theorem line63:(sizeLine:Nat) < 2 ^ 63:=by rw [sizeLine_eq]; decide
theorem tru_ok:TruR X (fun x H Q=>∃ k,TruV X.K x H k/\Q k H):=by
 intro pins s σ H x v Q I rx h
 obtain ⟨k,e,q⟩:=h
 have hl:=line63
 have hs:sizeLine=16777216:=sizeLine_eq
 cases x with
 | non=>
  cases rx
  have e':k=false:=e
  subst e'
  exact truthy_none ⟨H,I,q⟩
 | bl b=>
  cases rx
  have e':k=b:=e
  subst e'
  exact wpAny_truthy_bool ⟨H,I,q⟩
 | int i=>
  obtain ⟨t,rfl⟩:=rx
  have e':k=(i != 0):=e
  subst e'
  exact PySem.P.truthy_int ⟨H,I,q⟩
 | str y=>
  obtain ⟨t,rfl⟩:=rx
  obtain ⟨hy,e'⟩:y.length<=sizeLine/\k=((y.length:Int) != 0):=e
  subst e'
  exact PySem.P.truthy_str (by (first|lia|omega)) ⟨H,I.tok _,q⟩
 | byt y=>
  obtain ⟨t,rfl⟩:=rx
  obtain ⟨hy,e'⟩:y.size<=sizeLine/\k=((y.size:Int) != 0):=e
  subst e'
  exact PySem.W.truthy_bytes (by (first|lia|omega)) ⟨H,I.tok _,q⟩
 | ref p=>
  cases rx
  have e':(∃ xs,SqL X.K H p xs/\k = !xs.isEmpty)\/(∃ xs,SqT X.K H p xs/\k = !xs.isEmpty)\/∃ kvs,H p=some (.dK kvs)/\k = !kvs.isEmpty:=e
  rcases e' with ⟨xs,hx,e'⟩ | ⟨xs,hx,e'⟩ | ⟨kvs,hx,e'⟩
  ·subst e'
   obtain ⟨its,r,pl,hz⟩:=I.list hx
   have hlen:=r.length
   exact wpAny_truthy_list pl.isList (by simp only [List.size_toArray]; (first|lia|omega)) ⟨H,I.tok _,by rw [isEmpty_of r]; exact q⟩
  ·subst e'
   obtain ⟨its,r,pl,hz⟩:=I.tuple hx
   have hlen:=r.length
   exact truthy_tuple pl (by simp only [List.size_toArray]; (first|lia|omega)) ⟨H,I.tok _,by rw [isEmpty_of r]; exact q⟩
  ·subst e'
   obtain ⟨hz,hS,vs,r,m⟩:kvs.length<=sizeLine/\(p == sysModules)=false/\∃ vs,KV kvs vs/\s.heap.DictOf (mixKind X.prog X.w) p vs:=I.hok p _ hx
   have hlen:kvs.length=vs.length:=Paired.length r
   exact wpAny_truthy_dict hS m (by (first|lia|omega)) ⟨H,I.tok _,by rw [isEmpty_kv r]; exact q⟩
 | _=>exact (show False from e).elim
theorem pt_truth (ha:PE X a ta) (he:∀ whole,isTrue a X.env whole=(do let v <- whole; standAt a.pos; holding [v] (truthy v))) :
  PT X a (fun σ H Q=>ta σ H fun x H'=>∃ k,TruV X.K x H' k/\Q k H'):=by
 intro pins s σ H Q I h
 exact isTrue_plain (thn (ha pins s σ H _ I h) fun v s1 ⟨x,H1,I1,r1,q1⟩=>tru_ok pins s1 σ H1 x v Q I1 r1 q1) (he _)
theorem op_add_str:OpR X (binaryOp .Add) (fun x y H Q=>∃ i j,x=.str i/\y=.str j/\i.length + j.length<=sizeLine/\Q (.str (i ++ j)) H):=by
 intro pins s σ H x y v u Q I rx ry h
 obtain ⟨i,j,rfl,rfl,hz,q⟩:=h
 obtain ⟨t,rfl⟩:=rx
 obtain ⟨t',rfl⟩:=ry
 exact add_str (fun t' tk=>⟨.str (i ++ j),H,I.tok _,⟨_,rfl⟩,q⟩) hz
theorem vals1 {x:V} {us:List Value} (r:Vals [x] us):∃ u,us=[u]/\RelV x u:=by
 cases r with
 | cons r1 r2=>cases r2; exact ⟨_,rfl,r1⟩
theorem vals2 {x y:V} {us:List Value} (r:Vals [x,y] us):∃ u w',us=[u,w']/\RelV x u/\RelV y w':=by
 cases r with
 | cons r1 r2=>
  cases r2 with
  | cons r3 r4=>cases r4; exact ⟨_,_,rfl,r1,r3⟩
theorem call_abs:CallR X (.builtin "abs") (fun xs H Q=>∃ i,xs=[.int i]/\Q (.int (if i < 0 then -i else i)) H):=by
 intro pins s σ H xs us Q I r h
 obtain ⟨i,rfl,q⟩:=h
 obtain ⟨u,rfl,t,rfl⟩:=vals1 r
 exact call_abs_int fun u tk=>⟨.int (if i < 0 then -i else i),H,I.tok _,⟨_,rfl⟩,q⟩
theorem call_str_int:CallR X (.type "str") (fun xs H Q=>∃ i,xs=[.int i]/\i.natAbs.log2 < 1920/\Q (.str (toString i)) H):=by
 intro pins s σ H xs us Q I r h
 obtain ⟨i,rfl,hz,q⟩:=h
 obtain ⟨u,rfl,t,rfl⟩:=vals1 r
 exact PySem.P.str_of_int hz ⟨.str _,H,I.tok _,⟨_,rfl⟩,q⟩
end
end L2
namespace L2
open PySem PySem.Spec PyProof.Rows
structure ObjM (h:Heap) (x dx C:Addr) (mA:Str->Option Value):Prop where
 obj:h.get? x=some (PySem.W.instObj C dx)
 ns:h.Ns1 dx mA
 ne:dx ≠ x
theorem lookIn_ns {h:Heap} {dx:Addr} {mA:Str->Option Value} (n:h.Ns1 dx mA):∃ od,h.get? dx=some od/\∀ name,PySem.W.lookIn name od=some (mA name):=by
 obtain ⟨o,es,ep,ho,hd,hk,_,hm⟩:=n
 refine ⟨o,ho,fun name=>?_⟩
 have e:=hm name
 unfold nsFind findBy at e
 rw [<-Array.find?_toList] at e
 unfold PySem.W.lookIn
 rw [hd]
 dsimp only
 split
 ·rename_i y q
  rw [q] at e
  exact congrArg some e
 ·rename_i q
  rw [q] at e
  have a:es.toList.any (·.refKey)=false:=by
   rw [List.any_eq_false]
   intro y hy
   obtain ⟨z,t,hkey⟩:=hk y (Array.mem_toList_iff.mp hy)
   simp [DictEntry.refKey,hkey]
  have a':¬ es.toList.any (·.refKey)=true:=by rw [a]; exact Bool.false_ne_true
  rw [if_neg a']
  exact congrArg some e
theorem ObjM.look {h:Heap} {x dx C:Addr} {mA:Str->Option Value} (I:ObjM h x dx C mA):∃ od,PySem.W.InstAt h x (PySem.W.instObj C dx) C (some od)/\∀ name,PySem.W.lookIn name od=some (mA name):=
 let ⟨od,ho,hl⟩:=lookIn_ns I.ns
 ⟨od,⟨I.obj,rfl,rfl,ho⟩,hl⟩
section
variable {prog:Program} {w:World} {A:Around} {E:Value->Shared->Prop} {s:Shared} {K:PySem.W.Frag} {x dx C f:Addr} {mA:Str->Option Value} {name:Str} {v:Value}
end
theorem RelO.some_of {v:V} {o:Option Value} (r:RelO (some v) o):∃ u,o=some u/\RelV v u:=by
 cases o with
 | none=>exact (show False from r).elim
 | some u=>exact ⟨u,rfl,r⟩
section
variable {P:Program} {w:World} {H H':Hp} {h h':Heap} {a C dx:Addr} {fs fs':List (Str × V)}
theorem ins_get (hok:HOk P w H h) (e:H a=some (.ins C dx fs)):∃ mA,ObjM h a dx C mA/\(∀ f,RelO (fs.lookup f) (mA f))/\PySem.Within mA (fs.map (·.1))/\fs.length<=1000/\H dx=some (.own a):=by
 obtain ⟨d,z,ne,ob,mA,n,r,q⟩:=(show ObjOk P w H h a (.ins C dx fs) from hok a _ e)
 exact ⟨mA,⟨ob,n,ne⟩,r,q,z,d⟩
end
structure Cls (K:PySem.W.Frag) (C:Addr):Prop where
 pg:PySem.W.plainGet K C Str.empty=true
 hd:PySem.W.hasDictIn K C=true
 po:PySem.W.plainOver K C=true
 sa:PySem.W.findIn K (.ref C) "__setattr__"=some (some (.builtin "object.__setattr__"))
theorem Cls.get {K:PySem.W.Frag} {C:Addr} (c:Cls K C) (f:Str):PySem.W.plainGet K C f=true:=c.pg
section
variable {X:Cx} {pins:List (Addr × Obj)} {σ:St} {H:Hp} {s:Shared} {a C dx:Addr} {fs:List (Str × V)} {f:Str} {v:V} {A:Around} {E:Value->Shared->Prop}
end
section
variable {X:Cx} {o e value:Expr} {f:Str} {pos pos' tpos:Pos} {ta tv:TE}
end
section
variable {X:Cx} {pins:List (Addr × Obj)} {σ:St} {H:Hp} {s:Shared} {A:Around} {E:Value->Shared->Prop} {Q:Value->Shared->Prop} {c:Value} {b:Bool}
inductive TyOf (K:PySem.W.Frag) (H:Hp):V->Value->Prop where
 | non:TyOf K H .non (.type "NoneType")
 | bl (x:Bool):TyOf K H (.bl x) (.type "bool")
 | int (i:Int):TyOf K H (.int i) (.type "int")
 | str (x:Str):TyOf K H (.str x) (.type "str")
 | flt (x:UInt64):TyOf K H (.flt x) (.type "float")
 | lst {a:Addr} {xs:List V} (e:H a=some (.lst xs)):TyOf K H (.ref a) (.type "list")
 | frz {a:Addr} {o:Obj} {xs:List V} (e:H a=some (.frz o (.lst xs))):TyOf K H (.ref a) (.type "list")
 | tup {a:Addr} {xs:List V} (e:H a=some (.tup xs)):TyOf K H (.ref a) (.type "tuple")
 | dK {a:Addr} {kvs:List (Key × V)} (e:H a=some (.dK kvs)):TyOf K H (.ref a) (.type "dict")
 | dT {a:Addr} {kvs:List (List Key × V)} (e:H a=some (.dT kvs)):TyOf K H (.ref a) (.type "dict")
 | ins {a C dx:Addr} {fs:List (Str × V)} (e:H a=some (.ins C dx fs)) (cl:Cls K C) (ha:PySem.W.findIn K (.ref C) "__class__"=some (some (.builtin "object.__class__")))
   (hn:PySem.W.specialIn K (.builtin "object.__class__") "__get__"=some (some (.builtin "getset_descriptor.__get__"))) (htk:PySem.W.takesIn K (.builtin "object.__class__")=some true)
   (hm:PySem.W.mroIn K C (.type "object")=some true):TyOf K H (.ref a) (.ref C)
theorem isinst_ok {x:V} {u t:Value} (I:Inv X pins σ H s) (rx:RelV x u) (ty:TyOf X.K H x t) (e:PySem.W.kitOne X.K t c=some b) (h:∀ tk,Q (.bool b) { s with toks:=tk }) :
  wpAny (model X.prog X.w) A (call (.builtin "isinstance") [u,c]) Q E s:=by
 cases ty with
 | non=>cases (show u=Value.none from rx); exact PySem.W.kia_one PySem.W.kitx_none I.kIn True.intro e (fun z=>nomatch z) h
 | bl y=>cases (show u=Value.bool y from rx); exact PySem.W.kia_one PySem.W.kitx_bool I.kIn True.intro e (fun z=>nomatch z) h
 | int i=>obtain ⟨t,q⟩:=(show ∃ t,u=Value.int i t from rx); cases q; exact PySem.W.kia_one PySem.W.kitx_int I.kIn True.intro e (fun z=>nomatch z) h
 | str y=>obtain ⟨t,q⟩:=(show ∃ t,u=Value.str y t from rx); cases q; exact PySem.W.kia_one PySem.W.kitx_str I.kIn True.intro e (fun z=>nomatch z) h
 | flt y=>obtain ⟨t,q⟩:=(show ∃ t,u=Value.float y t from rx); cases q; exact PySem.W.kia_one PySem.W.kitx_float I.kIn True.intro e (fun z=>nomatch z) h
 | @lst a xs ea=>
  cases (show u=Value.ref a from rx)
  obtain ⟨_,_,n,_,h1⟩:=(show ObjOk X.prog X.w H s.heap a (.lst xs) from I.hok a _ ea)
  exact PySem.W.kia_one PySem.W.kitx_list I.kIn ⟨_,h1,rfl⟩ e (fun z=>nomatch z) h
 | @frz a ob xs ea=>
  cases (show u=Value.ref a from rx)
  obtain ⟨_,_,_,n,_,h1⟩:=(show ObjOk X.prog X.w H s.heap a (.frz ob (.lst xs)) from I.hok a _ ea)
  exact PySem.W.kia_one PySem.W.kitx_list I.kIn ⟨_,h1,rfl⟩ e (fun z=>nomatch z) h
 | @tup a xs ea=>
  cases (show u=Value.ref a from rx)
  obtain ⟨_,_,_,p,_⟩:=(show ObjOk X.prog X.w H s.heap a (.tup xs) from I.hok a _ ea)
  obtain ⟨o,h1,h2,_⟩:=p
  exact PySem.W.kia_one PySem.W.kitx_tuple I.kIn ⟨o,h1,h2⟩ e (fun z=>nomatch z) h
 | @dK a kvs ea=>
  cases (show u=Value.ref a from rx)
  obtain ⟨_,_,vs,_,p⟩:=(show ObjOk X.prog X.w H s.heap a (.dK kvs) from I.hok a _ ea)
  obtain ⟨o,es,ep,h1,h2,_⟩:=p
  exact PySem.W.kia_one PySem.W.kitx_dict I.kIn ⟨o,h1,h2.1⟩ e (fun z=>nomatch z) h
 | @dT a kvs ea=>
  cases (show u=Value.ref a from rx)
  obtain ⟨_,_,xs,_,o,es,ep,h1,h2,_⟩:=(show ObjOk X.prog X.w H s.heap a (.dT kvs) from I.hok a _ ea)
  exact PySem.W.kia_one PySem.W.kitx_dict I.kIn ⟨o,h1,h2.1⟩ e (fun z=>nomatch z) h
 | @ins a C dx fs ea cl ha hn htk hm=>
  cases (show u=Value.ref a from rx)
  obtain ⟨mA,O,_⟩:=ins_get I.hok ea
  obtain ⟨od,J,_⟩:=O.look
  exact PySem.W.kia_one (PySem.W.kitx_own (cl.get _) cl.hd ha hn htk hm) I.kIn J e (fun z=>nomatch z) h
end
end L2
namespace L2
open PySem PySem.Spec PyProof.Rows
structure Room (k:Nat) (A:Around):Prop where
 hd:A.handled=none
 dp:A.depth + 3 * k + 5 < recursionLimit
 un:A.units + 16 * k + 200 < cLine
 gd:A.guards=some []:=by rfl
theorem Room.mono {j k:Nat} {A:Around} (r:Room k A) (h:j<=k):Room j A:=⟨r.hd,by have:=r.dp; (first|lia|omega),by have:=r.un; (first|lia|omega),r.gd⟩
theorem Room.deeper {k:Nat} {A:Around} (r:Room (k + 1) A) (env:Env):Room k (A.deeper env):=
 ⟨r.hd,by have:=r.dp; show A.depth + 1 + 3 * k + 5 < _; (first|lia|omega),by have:=r.un; show A.units + 3 + 16 * k + 200 < _; (first|lia|omega),r.gd⟩
theorem Room.depth {k:Nat} {A:Around} (r:Room k A):A.depth < recursionLimit:=by have:=r.dp; (first|lia|omega)
theorem Room.units {k:Nat} {A:Around} (r:Room k A):A.units + 64 < cLine:=by have:=r.un; (first|lia|omega)
def tNil:TA:=fun _ H Q=>Q [] H
def tCons (ta:TE) (tr:TA):TA:=fun σ H Q=>ta σ H fun x H1=>tr σ H1 fun xs H2=>Q (x :: xs) H2
section
variable {X:Cx} {e:Expr} {es:List Expr} {te:TE} {t:TA} {pos:Pos}
theorem pa_nil:PA X [] tNil:=fun _ _ _ _ H Q I h=>Calls.spliced_nil ⟨[],H,I,.nil,h⟩
theorem pa_cons (ha:PE X e te) (hr:PA X es t) (hs:starEach (e :: es) X.env=(false,eval e X.env) :: starEach es X.env:=by rfl):PA X (e :: es) (tCons te t):=by
 intro pos pins s σ H Q I h
 rw [hs]
 show wpAny _ _ (spliced ((false,eval e X.env) :: backTo pos (starEach es X.env))) _ _ s
 refine Calls.spliced_cons (thn (ha pins s σ H _ I h) fun u s1 ⟨x,H1,I1,r1,q1⟩=>?_)
 exact thn (hr pos pins s1 σ H1 _ I1 q1) fun us s2 ⟨xs,H2,I2,r2,q2⟩=>⟨x :: xs,H2,I2,.cons r1 r2,q2⟩
def tTup (t:TA):TE:=fun σ H Q=>t σ H fun xs H1=>xs.length<=sizeLine/\∀ p,H1 p=none->Q (.ref p) (upd H1 p (.tup xs))
def tLst (t:TA):TE:=fun σ H Q=>t σ H fun xs H1=>xs.length<=sizeLine/\∀ p,H1 p=none->Q (.ref p) (upd H1 p (.lst xs))
theorem pe_tup {x1} (h:PA X es t):PE X (.Tuple es x1 pos) (tTup t):=by
 intro pins s σ H Q I hq
 refine wpAny_Tuple_spliced (thn (h pos pins s σ H _ I hq) fun us s1 ⟨xs,H1,I1,r,z,q⟩=>⟨by rw [<-r.length]; exact z,?_⟩)
 have hf:H1 s1.heap.objs.size=none:=I1.hok.fresh (Nat.le_refl _)
 refine ⟨.ref s1.heap.objs.size,upd H1 s1.heap.objs.size (.tup xs),I1.laid (t':=s1.toks) (fun b u e=>Heap.get?_push_of_some _ e) (Nat.le_refl _) ?_,rfl,q _ hf⟩
 exact ⟨z,us,r,⟨_,Heap.get?_push_size _ rfl,rfl,_,rfl⟩,TupD.new rfl rfl⟩
theorem pe_lst (h:PA X es t):PE X (.List es pos) (tLst t):=by
 intro pins s σ H Q I hq
 refine wpAny_List_spliced (thn (h pos pins s σ H _ I hq) fun us s1 ⟨xs,H1,I1,r,z,q⟩=>⟨by rw [<-r.length]; exact z,?_⟩)
 have hf:H1 s1.heap.objs.size=none:=I1.hok.fresh (Nat.le_refl _)
 refine ⟨.ref s1.heap.objs.size,upd H1 s1.heap.objs.size (.lst xs),I1.laid (t':=s1.toks) (fun b u e=>Heap.get?_push_of_some _ e) (Nat.le_refl _) ?_,rfl,q _ hf⟩
 exact ⟨z,us,0,r,Heap.get?_push_size _ rfl⟩
end
abbrev Sp:=List V->Hp->VK->XK->Prop
abbrev CXT:=List Env->Hp->Shared->XK->Value->Shared->Prop
structure Env0 (P:Program) (w:World) (K:PySem.W.Frag) (mg:Str->Option Value) (base:Heap) (A:Around) (outer:List Env) (s:Shared) (H:Hp):Prop where
 frames:A.frames=some outer
 mod:Mod K mg base
 bs:∀ b o,base.get? b=some o->s.heap.get? b=some o/\H b=none
 bsz:base.objs.size<=s.heap.objs.size
 funs:s.heap.FunFrames base outer
 frf:∀ b ∈ frs outer,H b=none
 hok:HOk P w H s.heap
 bare:AllBare s.gens
def CE (outer:List Env) (P:Program) (w:World) (H:Hp) (s:Shared) (Q:VK) (u:Value) (s':Shared):Prop:=
 ∃ v H',s'.os=s.os/\AllBare s'.gens/\Un (frs outer) [] H H' s.heap s'.heap/\HOk P w H' s'.heap/\RelV v u/\Q v H'
def CR (CX:CXT) (outer:List Env) (P:Program) (w:World) (H:Hp) (s:Shared) (Q:VK) (E:XK) (r:Result) (s':Shared):Prop:=
 match r with
 | .ok (.ret u)=>CE outer P w H s Q u s'
 | .ok _=>False
 | .error e=>CX outer H s E e s'
structure FnOk (P:Program) (w:World) (K:PySem.W.Frag) (mg:Str->Option Value) (base:Heap) (CX:CXT) (k:Nat) (f:Addr) (fd:FuncData) (ps:List Str) (sp:Sp):Prop where
 len:∀ vs H Q E,sp vs H Q E->vs.length=ps.length
 run:∀ (A:Around) (outer:List Env) (s:Shared) (H:Hp) (args:Args) (us:List Value) (vs:List V) (Q:VK) (E:XK),Room k A->Env0 P w K mg base A outer s H->BindsTo s fd args (ps.zip us)->Vals vs us->sp vs H Q E ->
  codeAny (model P w) A (.call (.ref f) args) (CR CX outer P w H s Q E) s
section
variable {X:Cx} {pins:List (Addr × Obj)} {σ:St} {H:Hp} {s s':Shared}
theorem Inv.env0 (I:Inv X pins σ H s):Env0 X.prog X.w X.K X.mg X.base X.A X.stack s H:=
 ⟨I.ok.frames,I.ok.mod,I.bs,Nat.le_trans I.ok.bsz I.sz,I.stack,I.stkFree,I.hok,I.bare⟩
theorem Inv.after {Q:VK} {u:Value} (I:Inv X pins σ H s) (h:CE X.stack X.prog X.w H s Q u s'):EP X pins σ Q u s':=by
 obtain ⟨v,H',os,bare,un,hok,r,q⟩:=h
 obtain ⟨hh,g,d,t,os'⟩:=s'
 obtain rfl:os'=s.os:=os
 exact ⟨v,H',I.call (h':=hh) (g':=g) (d':=d) (t':=t) (ch:=[]) un hok bare (fun b z=>absurd z (by simp)),r,q⟩
end
def tCall (sp:Sp) (dvs:List V) (E:XK) (t:TA):TE:=fun σ H Q=>t σ H fun vs H1=>sp (vs ++ dvs) H1 Q E
def Binds (K:PySem.W.Frag) (fd:FuncData) (ps:List Str) (ds:List Value):Prop:=
 ∀ (s:Shared) (us:List Value),K.In s.heap->(us ++ ds).length=ps.length->BindsTo s fd ⟨us,[]⟩ (ps.zip (us ++ ds))
theorem Binds.all {K:PySem.W.Frag} {fd:FuncData} {ps:List Str} (h:∀ us:List Value,us.length=ps.length->bindArgs fd ⟨us,[]⟩=pure (ps.zip us)):Binds K fd ps []:=fun s us _ hl=>by
 rw [List.append_nil] at hl ⊢
 exact .of_eq (h us hl)
def Passes (CX:CXT) (X:Cx) (E:XK):Prop:=∀ (pins:List (Addr × Obj)) (σ:St) (H:Hp) (s:Shared) (e:Value) (s':Shared),Inv X pins σ H s->CX X.stack H s E e s'->X.xe e s'
section
variable {X:Cx} {CX:CXT} {k:Nat} {f C:Addr} {fd:FuncData} {ps:List Str} {sp:Sp} {dvs:List V} {ds:List Value} {E:XK} {x m:Str} {p pos apos:Pos} {e o:Expr} {es:List Expr} {ta:TE} {t:TA}
theorem run_fn {pins:List (Addr × Obj)} {σ:St} {H:Hp} {s:Shared} {Q:VK} {us:List Value} {vs:List V} (F:FnOk X.prog X.w X.K X.mg X.base CX k f fd ps sp) (hr:Room k X.A) (hb:Binds X.K fd ps ds) (hd:Vals dvs ds) (hx:Passes CX X E)
  (I:Inv X pins σ H s) (r:Vals vs us) (h:sp (vs ++ dvs) H Q E):wpAny (model X.prog X.w) X.A (call (.ref f) us) (EP X pins σ Q) X.xe s:=by
 have r2:Vals (vs ++ dvs) (us ++ ds):=r.append hd
 have hl:(us ++ ds).length=ps.length:=by rw [<-r2.length]; exact F.len _ _ _ _ h
 refine wpAny_call (codeAny_mono (F.run X.A X.stack s H ⟨us,[]⟩ (us ++ ds) (vs ++ dvs) Q E hr I.env0 (hb s us I.kIn hl) r2 h) fun r s' hq=>?_)
 cases r with
 | error e=>exact hx pins σ H s e s' I hq
 | ok fl=>
  cases fl with
  | ret u=>exact I.after hq
  | next=>exact False.elim hq
  | brk=>exact False.elim hq
  | cont=>exact False.elim hq
theorem pe_call (F:FnOk X.prog X.w X.K X.mg X.base CX k f fd ps sp) (hr:Room k X.A) (hg:Gl X x) (hm:X.mg x=some (.ref f)) (hk:PySem.W.keepIn X.K (.ref f)=true) (hb:Binds X.K fd ps ds) (hd:Vals dvs ds) (hx:Passes CX X E)
  (ha:PA X (e :: es) t) (hdb:(x == ("__debug__":Str))=false:=by decide) (he:starEach (e :: es) X.env=(false,eval e X.env) :: starEach es X.env:=by rfl) (hpl:(backTo pos (starEach es X.env)).any (·.1)=false:=by rfl) :
  PE X (.Call (.Name x p) (e :: es) [] pos) (tCall sp dvs E t):=by
 intro pins s σ H Q I h
 refine wpAny_Call_Name_kw (ld_glob I hg hm ?_ hdb)
 refine PySem.W.callWith_K (h₀:=X.base) I.ok.mod.kin hk (thn (ha pos pins s σ H _ I h) fun us s1 ⟨vs,H1,I1,r,q⟩=>⟨I1.kIn,?_⟩) he hpl
 exact run_fn F hr hb hd hx I1 r q
end
section
variable {X:Cx} {CX:CXT} {k:Nat} {f C:Addr} {fd:FuncData} {ps ks:List Str} {sp:Sp} {E:XK} {x m:Str} {p pos apos kpos:Pos} {e o:Expr} {es:List Expr} {kws:List Keyword} {te ta:TE} {t tk:TA} {nm:Option Str}
variable {g:List Value->List Value->List Value} {gV:List V->List V->List V}
end
structure FnScope (N P:List Str) (sc:Scope):Prop where
 kind:sc.kind=.function
 co:sc.isCoroutine=false
 gen:sc.isGenerator=false
 nd:N.Nodup
 pre:N.take P.length=P
 par:∀ x ∈ P,sc.names.lookup x=some .local\/sc.names.lookup x=some .cell
 nofree:∀ y ∈ sc.names,y.2 ≠ .free
theorem bindL_out {kindOf:Str->Option NameKind} {x:Str}:∀ {binds:List (Str × Value)} {m:Str->Option Value},(∀ v,(x,v) ∉ binds)->bindL kindOf binds m x=m x
 | [],_,_=>rfl
 | (n,v) :: r,m,h=>by
  unfold bindL
  rw [bindL_out fun w hw=>h w (List.mem_cons_of_mem _ hw)]
  split
  ·have:x ≠ n:=by rintro rfl; exact h v List.mem_cons_self
   simp [this]
  ·rfl
theorem bindC_out {kindOf:Str->Option NameKind} {x:Str}:∀ {binds:List (Str × Value)} {m:Str->Option Value},(∀ v,(x,v) ∉ binds)->bindC kindOf binds m x=m x
 | [],_,_=>rfl
 | (n,v) :: r,m,h=>by
  unfold bindC
  rw [bindC_out fun w hw=>h w (List.mem_cons_of_mem _ hw)]
  split
  ·rfl
  ·have:x ≠ n:=by rintro rfl; exact h v List.mem_cons_self
   simp [this]
theorem bindL_get {kindOf:Str->Option NameKind} {x:Str} {v:Value}:∀ {P:List Str} {vs:List Value} {i:Nat} {m:Str->Option Value},P.Nodup->P[i]? = some x->vs[i]? = some v->kindOf x=some .local ->
  bindL kindOf (P.zip vs) m x=some v
 | [],_,_,_,_,h,_,_=>by simp at h
 | _ :: _,[],_,_,_,_,h,_=>by simp at h
 | p :: P,w :: vs,0,m,nd,h1,h2,hk=>by
  simp at h1 h2; subst h1; subst h2
  show bindL kindOf ((p,w) :: P.zip vs) m p=_
  unfold bindL
  rw [bindL_out fun v hv=>(List.nodup_cons.mp nd).1 (List.of_mem_zip hv).1,if_pos hk]
  simp
 | p :: P,w :: vs,i + 1,m,nd,h1,h2,hk=>by
  show bindL kindOf ((p,w) :: P.zip vs) m x=_
  unfold bindL
  exact bindL_get (i:=i) (List.nodup_cons.mp nd).2 (by simpa using h1) (by simpa using h2) hk
theorem bindC_get {kindOf:Str->Option NameKind} {x:Str} {v:Value}:∀ {P:List Str} {vs:List Value} {i:Nat} {m:Str->Option Value},P.Nodup->P[i]? = some x->vs[i]? = some v->kindOf x ≠ some .local ->
  bindC kindOf (P.zip vs) m x=some v
 | [],_,_,_,_,h,_,_=>by simp at h
 | _ :: _,[],_,_,_,_,h,_=>by simp at h
 | p :: P,w :: vs,0,m,nd,h1,h2,hk=>by
  simp at h1 h2; subst h1; subst h2
  show bindC kindOf ((p,w) :: P.zip vs) m p=_
  unfold bindC
  rw [bindC_out fun v hv=>(List.nodup_cons.mp nd).1 (List.of_mem_zip hv).1,if_neg hk]
  simp
 | p :: P,w :: vs,i + 1,m,nd,h1,h2,hk=>by
  show bindC kindOf ((p,w) :: P.zip vs) m x=_
  unfold bindC
  exact bindC_get (i:=i) (List.nodup_cons.mp nd).2 (by simpa using h1) (by simpa using h2) hk
def start (N:List Str) (vs:List V):St:=vs.map some ++ List.replicate (N.length - vs.length) none
def cxOf (CX:CXT) (P:Program) (w:World) (K:PySem.W.Frag) (mg:Str->Option Value) (base:Heap) (N:List Str) (qual:Str) (scope:Scope) (f:Addr) (cd:Value) (A:Around) (outer:List Env) (s:Shared) (H:Hp) (E:XK):Cx where
 prog:=P
 w:=w
 K:=K
 mg:=mg
 base:=base
 A:=A.deeper (envOfC qual scope s.heap.objs.size f cd)
 N:=N
 s₀:=s
 H₀:=H
 env:=envOfC qual scope s.heap.objs.size f cd
 outer:=outer
 stack:=envOfC qual scope s.heap.objs.size f cd :: outer
 ex:=[]
 calm:=true
 fn:=fun _=>true
 pn:=[]
 xe:=fun e s'=>wpAny (model P w) (A.deeper (envOfC qual scope s.heap.objs.size f cd)) (leaving (envOfC qual scope s.heap.objs.size f cd) e) (fun _ s''=>CX outer H s E e s'') (fun e' s''=>CX outer H s E e' s'') s'
theorem cell_has {sc:Scope} {n:Nat} {x:Str} (h:sc.names.lookup x=some .cell):∃ c,(cellsFrom n sc.names []).lookup x=some c:=by
 have q:=PySem.W.cellsFrom_some sc.names n [] (.inl h)
 exact Option.isSome_iff_exists.mp q
theorem inv_start {CX:CXT} {P:Program} {w:World} {K:PySem.W.Frag} {mg:Str->Option Value} {base:Heap} {N ps:List Str} {qual:Str} {scope:Scope} {f:Addr} {cd:Value} {A:Around} {outer:List Env} {s s1:Shared} {H:Hp} {E:XK} {us:List Value} {vs:List V}
  (S:FnScope N ps scope) (hd:A.handled=none) (e0:Env0 P w K mg base A outer s H) (hl:vs.length=ps.length) (r:Vals vs us)
  (x:InCallC s s.heap.objs.size (bindL (envOfC qual scope s.heap.objs.size f cd).kindOf (ps.zip us) fun _=>none) (cellsFrom (s.heap.objs.size + 1) scope.names []) (bindC (envOfC qual scope s.heap.objs.size f cd).kindOf (ps.zip us) fun _=>none) s1) :
  Inv (cxOf CX P w K mg base N qual scope f cd A outer s H E) [] (start N vs) H s1:=by
 have hpl:ps.length<=N.length:=by have:=congrArg List.length S.pre; rw [List.length_take] at this; (first|lia|omega)
 obtain ⟨h1,tk,rfl,hk⟩:=x.done
 have noA:∀ b:Addr,b ∉ (cxOf CX P w K mg base N qual scope f cd A outer s H E).ex:=fun b z=>absurd (show b ∈ ([]:List Addr) from z) (by simp)
 refine ⟨⟨e0.mod,S.kind,rfl,rfl,Nat.le_refl _,fun y z c h1 h2=>?_,fun y hy=>?_,fun y c _ h=>?_,fun _=>hd,Around.frames_deeper e0.frames,.inr ⟨rfl,rfl⟩,fun b z=>absurd z (noA b),e0.bs,e0.bsz,fun b _ _=>noA b,fun b z=>absurd z (noA b),e0.funs,e0.frf⟩,
  rfl,e0.bare,Un.kept hk,⟨_,x.toInCall.ns,fun i y v h1 h2 h3=>?_⟩,fun y c h=>⟨_,x.cell y c h⟩,e0.hok.fresh (Nat.le_refl _),fun y c h=>?_,fun p hp=>absurd (show p ∈ ([]:List (Addr × Obj)) from hp) (by simp),e0.hok.kept hk,?_⟩
 ·exact name_of_addr x.apart (PySem.mem_of_lookup h1) (PySem.mem_of_lookup h2)
 ·have hy:scope.names.lookup y=some .cell\/scope.names.lookup y=some .free:=hy
  rcases hy with hy | hy
  ·exact cell_has hy
  ·exact absurd rfl (S.nofree _ (PySem.mem_of_lookup hy))
 ·exact Nat.le_of_lt (x.above y c (PySem.mem_of_lookup h))
 ·have hi:i < vs.length:=by
   unfold start at h2
   by_cases hi:i < vs.length
   ·exact hi
   ·rw [List.getElem?_append_right (by simpa using hi)] at h2
    rw [List.getElem?_replicate] at h2
    split at h2 <;> cases h2
  have ha:vs[i]? = some v:=by
   unfold start at h2
   rw [List.getElem?_append_left (by simpa using hi),List.getElem?_map] at h2
   cases e:vs[i]? with
   | none=>rw [e] at h2; cases h2
   | some a=>rw [e] at h2; cases h2; rfl
  obtain ⟨u,hu,rv⟩:=r.get ha
  have hp:ps[i]? = some y:=by
   rw [<-S.pre,List.getElem?_take_of_lt (by (first|lia|omega))]; exact h1
  have ndP:ps.Nodup:=by rw [<-S.pre]; exact S.nd.sublist (List.take_sublist _ _)
  refine ⟨u,rv,?_⟩
  rcases S.par y (List.mem_of_getElem? hp) with k | k
  ·exact .inl ⟨k,bindL_get ndP hp hu k⟩
  ·obtain ⟨c,e⟩:=cell_has (n:=s.heap.objs.size + 1) k
   refine .inr ⟨.inl k,c,e,?_⟩
   have q:=x.cell y c e
   rw [bindC_get ndP hp hu (by show scope.names.lookup y ≠ _; rw [k]; decide)] at q
   exact q
 ·exact e0.hok.fresh (Nat.le_of_lt (x.above y c (PySem.mem_of_lookup h)))
 ·unfold start
  show _=N.length
  rw [List.length_append,List.length_map,List.length_replicate]
  (first|lia|omega)
theorem fn_of {CX:CXT} {P:Program} {w:World} {K:PySem.W.Frag} {mg:Str->Option Value} {base:Heap} {k:Nat} {f:Addr} {name qual:Str} {params:Arguments} {body:List Stmt} {scope:Scope} {dV kV doc pm cdv ct oc:Value} {an od:Option Addr}
  {osl:Array (Option Value)} {N ps:List Str} {sp:Sp} (lk:K.lookup f=some ⟨oc,od,.func (PySem.W.fnOf name qual params body scope dV kV doc pm an cdv ct),osl⟩) (hcd:PySem.W.codeIn K cdv qual=true) (S:FnScope N ps scope)
  (len:∀ vs H Q E,sp vs H Q E->vs.length=ps.length)
  (hbody:∀ (A:Around) (outer:List Env) (s:Shared) (H:Hp) (vs:List V) (Q:VK) (E:XK),Room k (A.deeper (envOfC qual scope s.heap.objs.size f cdv))->sp vs H Q E ->
   ∃ t,PSs (cxOf CX P w K mg base N qual scope f cdv A outer s H E) body t/\t { nx:=fun _ H'=>Q .non H',rt:=Q } (start N vs) H) :
  FnOk P w K mg base CX (k + 1) f (PySem.W.fnOf name qual params body scope dV kV doc pm an cdv ct) ps sp:=by
 refine ⟨len,fun A outer s H args us vs Q E hr e0 hb r hsp=>?_⟩
 have hl:=len _ _ _ _ hsp
 have KX:K.In s.heap:=e0.mod.kin.keeps fun b o e=>(e0.bs b o e).1
 have lim:s.heap.NoLimit:=e0.mod.nolimit.keeps fun b o e=>(e0.bs b o e).1
 have hkind:∀ y ∈ ps.zip us,scope.names.lookup y.1=some .local\/(scope.names.lookup y.1=some .cell/\((cellsFrom (s.heap.objs.size + 1) scope.names []).lookup y.1).isSome=true):=fun ⟨n,v⟩ hy=>by
  rcases S.par n (List.of_mem_zip hy).1 with q | q
  ·exact .inl q
  ·exact .inr ⟨q,PySem.W.cellsFrom_some _ _ _ (.inl q)⟩
 refine codeAny_call_function hr.depth (KX _ _ lk) rfl S.co S.gen rfl (PySem.W.codeRec_of KX hcd) (hb _ _ _ _ ?_)
 refine wpAny_newFunctionEnv_cells S.kind hkind fun env he s1 x=>?_
 subst he
 refine ⟨lim.keeps x.toInCall.keep,codeAny_func ?_⟩
 obtain ⟨t,ht,hq⟩:=hbody A outer s H vs Q E (hr.deeper _) hsp
 have I:Inv (cxOf CX P w K mg base N qual scope f cdv A outer s H E) [] (start N vs) H s1:=inv_start S hr.hd e0 hl r x
 refine wpAny_mono (ht [] s1 (start N vs) H _ I hq) (fun fl s' hs=>?_) fun e s' hs=>hs
 have fin:∀ {σ':St} {H':Hp} {v:V} {u:Value},Inv (cxOf CX P w K mg base N qual scope f cdv A outer s H E) [] σ' H' s'->RelV v u->Q v H'->CE outer P w H s Q u s':=
  fun {σ' H' v u} J rv q=>⟨v,H',J.os,J.bare,J.base,J.hok,rv,q⟩
 cases fl with
 | ret u=>
  obtain ⟨v,σ',H',J,rv,q⟩:=hs
  exact fin J rv q
 | next=>
  obtain ⟨σ',H',J,q⟩:=hs
  exact fin (v:=V.non) (u:=Value.none) J rfl q
 | brk=>
  obtain ⟨_,_,_,q⟩:=hs
  exact False.elim q
 | cont=>
  obtain ⟨_,_,_,q⟩:=hs
  exact False.elim q
end L2
namespace L2
open PySem PySem.Spec PyProof.Rows
section
variable {X:Cx} {x:Str} {p pos:Pos} {e:Expr} {es:List Expr} {t:TA} {id T:String} {r:List V->Hp->VK->Prop}
def tCB (r:List V->Hp->VK->Prop) (t:TA):TE:=fun σ H Q=>t σ H fun vs H1=>r vs H1 Q
theorem pe_callB (hc:CallR X (.builtin id) r) (hg:Gl X x) (hm:X.mg x=none) (hv:bootBuiltins x=some (.builtin id)) (ha:PA X (e :: es) t) (hn:x ≠ "__name__":=by decide) (hdb:(x == ("__debug__":Str))=false:=by decide)
  (he:starEach (e :: es) X.env=(false,eval e X.env) :: starEach es X.env:=by rfl) (hpl:(backTo pos (starEach es X.env)).any (·.1)=false:=by rfl):PE X (.Call (.Name x p) (e :: es) [] pos) (tCB r t):=by
 intro pins s σ H Q I h
 refine wpAny_Call_Name_kw (ld_blt I hg hm hv ?_ hn hdb)
 exact PyProof.Rows.callWith_builtin1 (thn (ha pos pins s σ H _ I h) fun us s1 ⟨vs,H1,I1,r1,q1⟩=>hc pins s1 σ H1 vs us Q I1 r1 q1) he hpl
theorem pe_callTy (hc:CallR X (.type T) r) (hg:Gl X x) (hm:X.mg x=none) (hv:bootBuiltins x=some (.type T)) (ha:PA X (e :: es) t) (hn:x ≠ "__name__":=by decide) (hdb:(x == ("__debug__":Str))=false:=by decide)
  (he:starEach (e :: es) X.env=(false,eval e X.env) :: starEach es X.env:=by rfl) (hpl:(backTo pos (starEach es X.env)).any (·.1)=false:=by rfl):PE X (.Call (.Name x p) (e :: es) [] pos) (tCB r t):=by
 intro pins s σ H Q I h
 refine wpAny_Call_Name_kw (ld_blt I hg hm hv ?_ hn hdb)
 exact PyProof.Rows.callWith_type1 (thn (ha pos pins s σ H _ I h) fun us s1 ⟨vs,H1,I1,r1,q1⟩=>hc pins s1 σ H1 vs us Q I1 r1 q1) he hpl
end
end L2
namespace HT
open PySem PyProof.Rows
section
open PySem.SeqAt
open PySem.AutoSeq1 (wpAny_loadPart')
open PySem.MeetsSeq PySem.MeetsSeq2 PySem.MeetsSeq3
end
section
variable {prog:Program} {w:World} {A:Around} {E:Value->Shared->Prop} {s:Shared}
end
end HT
namespace L2
open PySem PySem.Spec PyProof.Rows
abbrev TO:=St->Hp->(Option Int->Hp->Prop)->Prop
def PO (X:Cx) (e:Option Expr) (t:TO):Prop:=
 ∀ (pins:List (Addr × Obj)) (s:Shared) (σ:St) (H:Hp) (Q:Option Int->Hp->Prop),Inv X pins σ H s->t σ H Q ->
  wpAny (model X.prog X.w) X.A (evalPart e X.env) (fun u s'=>∃ o H',Inv X pins σ H' s'/\IsPart u o/\Q o H') X.xe s
def tNoPart:TO:=fun _ H Q=>Q none H
def tPart (t:TE):TO:=fun σ H Q=>t σ H fun x H1=>∃ i,x=.int i/\Q (some i) H1
section
variable {X:Cx} {e:Expr} {te:TE} {lo hi:Option Expr} {tl th:TO} {pos p2:Pos}
theorem po_none:PO X none tNoPart:=by
 intro pins s σ H Q I h
 rw [evalPart_none]
 exact wpAny_pure ⟨none,H,I,.none,h⟩
theorem po_some (h:PE X e te):PO X (some e) (tPart te):=by
 intro pins s σ H Q I hw
 rw [evalPart_some]
 refine thn (h pins s σ H _ I hw) fun u s1 ⟨x,H1,I1,r1,q1⟩=>?_
 obtain ⟨i,rfl,q⟩:=q1
 obtain ⟨t,rfl⟩:=r1
 exact ⟨some i,H1,I1,.int i t,q⟩
end
end L2
namespace L2
open PySem PySem.Spec PyProof.Rows
def ixN (n:Nat) (i:Int):Option Nat:=if 0<=i then (if i < n then some i.toNat else none) else if -(n:Int)<=i then some (i + n).toNat else none
def atI {α:Type} (xs:List α) (i:Int):Option α:=(ixN xs.length i).bind fun j=>xs[j]?
theorem ixN_seq {n:Nat} {i:Int} {j:Nat} (h:ixN n i=some j):seqIndex? i n=some j/\j < n/\-(n:Int)<=i/\i < n:=by
 unfold ixN at h
 by_cases h0:0<=i
 ·rw [if_pos h0] at h
  by_cases h1:i < n
  ·rw [if_pos h1] at h
   have e:i.toNat=j:=Option.some.inj h
   exact ⟨by rw [seqIndex_of h0 h1,e],by (first|lia|omega),by (first|lia|omega),h1⟩
  ·rw [if_neg h1] at h; cases h
 ·rw [if_neg h0] at h
  by_cases h1:-(n:Int)<=i
  ·rw [if_pos h1] at h
   have e:(i + n).toNat=j:=Option.some.inj h
   exact ⟨by rw [seqIndex_neg (by (first|lia|omega)) h1,e],by (first|lia|omega),h1,by (first|lia|omega)⟩
  ·rw [if_neg h1] at h; cases h
theorem atI_get {α:Type} {xs:List α} {i:Int} {v:α} (h:atI xs i=some v):∃ j,seqIndex? i xs.length=some j/\xs[j]? = some v/\j < xs.length/\-(xs.length:Int)<=i/\i < xs.length:=by
 unfold atI at h
 cases e:ixN xs.length i with
 | none=>rw [e] at h; cases h
 | some j=>
  rw [e] at h
  obtain ⟨h1,h2,h3,h4⟩:=ixN_seq e
  exact ⟨j,h1,h,h2,h3,h4⟩
theorem atI_nat {α:Type} {xs:List α} {j:Nat} {v:α} (h:xs[j]? = some v):atI xs (j:Int)=some v:=by
 have hj:j < xs.length:=(List.getElem?_eq_some_iff.mp h).1
 have e:ixN xs.length (j:Int)=some j:=by
  unfold ixN
  rw [if_pos (by (first|lia|omega)),if_pos (by (first|lia|omega))]; simp
 unfold atI; rw [e]; exact h
theorem atI_last {α:Type} (xs:List α) (v:α):atI (xs ++ [v]) (-1)=some v:=by
 have hl:(xs ++ [v]).length=xs.length + 1:=by simp
 have e:ixN (xs ++ [v]).length (-1)=some xs.length:=by
  unfold ixN
  rw [hl,if_neg (by decide),if_pos (by (first|lia|omega))]
  congr 1
  (first|lia|omega)
 unfold atI
 rw [e]
 show (xs ++ [v])[xs.length]? = some v
 simp
def PlainIx (b:Expr):Prop:=∀ o i,subscripted b false o i=operate [o,i] (getItem o i)
def IxR (X:Cx) (r:R2):Prop:=
 ∀ (value slice:Expr) (pins:List (Addr × Obj)) (s:Shared) (σ:St) (H:Hp) (x y:V) (v u:Value) (Q:VK),Inv X pins σ H s->RelV x v->RelV y u->r x y H Q ->
  subscripted slice false v u=operate [v,u] (getItem v u)->wpAny (model X.prog X.w) X.A (subscriptTail value slice v u) (EP X pins σ Q) X.xe s
def MtR (X:Cx) (id:String) (r:V->List V->Hp->VK->Prop):Prop:=
 ∀ (pins:List (Addr × Obj)) (s:Shared) (σ:St) (H:Hp) (x:V) (xs:List V) (v:Value) (us:List Value) (Q:VK),Inv X pins σ H s->RelV x v->Vals xs us->r x xs H Q ->
  wpAny (model X.prog X.w) X.A (call (.builtin id) (v :: us)) (EP X pins σ Q) X.xe s
section
variable {X:Cx} {a b:Expr} {ta tb:TE} {pos:Pos}
theorem pe_ix {r:R2} (hr:IxR X r) (ha:PE X a ta) (hb:PE X b tb) (hs:PlainIx b):PE X (.Subscript a b pos) (tOp r ta tb):=by
 intro pins s σ H Q I h
 exact Subscript_ (binT ha hb I h fun v u s2 x y H2 I2 rx ry q=>hr a b pins s2 σ H2 x y v u Q I2 rx ry q (hs _ _))
def rIxL (K:PySem.W.Frag):R2:=fun x y H Q=>∃ p xs i v,x=.ref p/\y=.int i/\SqL K H p xs/\atI xs i=some v/\Q v H
def rIxT (K:PySem.W.Frag):R2:=fun x y H Q=>∃ p xs i v,x=.ref p/\y=.int i/\SqT K H p xs/\atI xs i=some v/\Q v H
def rIxS:R2:=fun x y H Q=>∃ z i c,x=.str z/\y=.int i/\z.length<=sizeLine/\atI z.cps.toList i=some c/\Q (.str ⟨#[c]⟩) H
theorem ix_list:IxR X (rIxL X.K):=by
 intro value slice pins s σ H x y v u Q I rx ry h hs
 obtain ⟨p,xs,i,z,rfl,rfl,hq,he,q⟩:=h
 cases rx
 obtain ⟨t,rfl⟩:=ry
 obtain ⟨its,r,pl,hz⟩:=I.list hq
 obtain ⟨j,h1,h2,h3,h4,h5⟩:=atI_get he
 obtain ⟨w,ew,rw'⟩:=r.get h2
 have hl:=r.length
 have hn:=line63
 have fin:EP X pins σ Q w s:=⟨z,H,I,rw',q⟩
 by_cases h0:0<=i
 ·have hj:i.toNat=j:=by
   rw [seqIndex_of h0 h5] at h1
   exact Option.some.inj h1
  exact item_listR pl.isList h0 (by (first|lia|omega)) (by rw [hj]; simpa using ew) fin hs
 ·have hj:(i + (its.toArray.size:Int)).toNat=j:=by
   rw [seqIndex_neg (by (first|lia|omega)) h4] at h1
   rw [List.size_toArray,<-hl]
   exact Option.some.inj h1
  exact subscriptTail_builtinR (x:=w) pl.isList.typeIs slot_list_getitem.lookup
   (wpAny_getItem_list_neg (Q:=fun r s'=>r=w/\EP X pins σ Q r s') pl.isList (by (first|lia|omega)) (by rw [List.size_toArray] <;> (first|lia|omega)) (by (first|lia|omega)) (by rw [hj]; simpa using ew) ⟨rfl,fin⟩) hs
theorem ix_tup:IxR X (rIxT X.K):=by
 intro value slice pins s σ H x y v u Q I rx ry h hs
 obtain ⟨p,xs,i,z,rfl,rfl,hq,he,q⟩:=h
 cases rx
 obtain ⟨t,rfl⟩:=ry
 obtain ⟨its,r,pl,hz⟩:=I.tuple hq
 obtain ⟨j,h1,h2,h3,h4,h5⟩:=atI_get he
 obtain ⟨w,ew,rw'⟩:=r.get h2
 have hl:=r.length
 have hn:=line63
 have fin:EP X pins σ Q w s:=⟨z,H,I,rw',q⟩
 exact subscriptTail_builtinR (x:=w) pl.typeIs slot_tuple_getitem.lookup
  (getItem_tuple (j:=j) (Q:=fun r s'=>r=w/\EP X pins σ Q r s') pl (by (first|lia|omega)) (by (first|lia|omega)) (by rw [List.size_toArray,<-hl]; exact h1) (by simpa using ew) ⟨rfl,fin⟩) hs
theorem ix_str:IxR X rIxS:=by
 intro value slice pins s σ H x y v u Q I rx ry h hs
 obtain ⟨z,i,c,rfl,rfl,hz,he,q⟩:=h
 obtain ⟨t,rfl⟩:=rx
 obtain ⟨t',rfl⟩:=ry
 obtain ⟨j,h1,h2,h3,h4,h5⟩:=atI_get he
 have hl:z.cps.toList.length=z.length:=by simp [Str.length]
 rw [hl] at h1 h4 h5
 have hn:=line63
 exact tail_any (typeIs_str s z t) slot_str_getitem.lookup (getItem_str (c:=c) (by
  have e1:decide (i < -(2 ^ 63:Int))=false:=decide_eq_false (by (first|lia|omega))
  have e2:decide (i >= 2 ^ 63)=false:=decide_eq_false (by (first|lia|omega))
  rw [e1,e2,Bool.or_false]) (by rw [h1]; simpa using h2) ⟨.str ⟨#[c]⟩,H,I.tok _,⟨_,rfl⟩,q⟩) hs
def flatV:V->Bool
 | .non=>true
 | .bl _=>true
 | .int _=>true
 | .str _=>true
 | _=>false
def eqV:V->V->Bool
 | .non,.non=>true
 | .bl a,.bl b=>a == b
 | .bl a,.int b=>(if a then 1 else 0) == b
 | .int a,.bl b=>a == (if b then 1 else 0)
 | .int a,.int b=>a == b
 | .str a,.str b=>a == b
 | _,_=>false
theorem eqAt_V {A:Around} {s:Shared} {y x:V} {u v:Value} (ry:RelV y u) (rx:RelV x v) (fy:flatV y=true) (fx:flatV x=true):SeqAt.EqAt A s u v (eqV y x):=by
 cases y with
 | non=>
  cases ry
  cases x with
  | non=>cases rx; exact SeqAt.EqAt.same _
  | bl b=>cases rx; exact SeqAt.EqAt.none_bool b
  | int b=>obtain ⟨t,rfl⟩:=rx; exact SeqAt.EqAt.none_int b t
  | str b=>obtain ⟨t,rfl⟩:=rx; exact SeqAt.EqAt.none_str b t
  | _=>exact absurd (show false=true from fx) Bool.false_ne_true
 | bl a=>
  cases ry
  cases x with
  | non=>cases rx; exact SeqAt.EqAt.bool_none a
  | bl b=>cases rx; exact SeqAt.EqAt.bool_bool a b
  | int b=>obtain ⟨t,rfl⟩:=rx; exact SeqAt.EqAt.bool_int a b t
  | str b=>obtain ⟨t,rfl⟩:=rx; exact SeqAt.EqAt.bool_str a b t
  | _=>exact absurd (show false=true from fx) Bool.false_ne_true
 | int a=>
  obtain ⟨t',rfl⟩:=ry
  cases x with
  | non=>cases rx; exact SeqAt.EqAt.int_none a t'
  | bl b=>cases rx; exact SeqAt.EqAt.int_bool a t' b
  | int b=>obtain ⟨t,rfl⟩:=rx; exact SeqAt.EqAt.int_int a t' b t
  | str b=>obtain ⟨t,rfl⟩:=rx; exact SeqAt.EqAt.int_str a t' b t
  | _=>exact absurd (show false=true from fx) Bool.false_ne_true
 | str a=>
  obtain ⟨t',rfl⟩:=ry
  cases x with
  | non=>cases rx; exact SeqAt.EqAt.str_none a t'
  | bl b=>cases rx; exact SeqAt.EqAt.str_bool a t' b
  | int b=>obtain ⟨t,rfl⟩:=rx; exact SeqAt.EqAt.str_int a t' b t
  | str b=>obtain ⟨t,rfl⟩:=rx; exact SeqAt.EqAt.str_str a t' b t
  | _=>exact absurd (show false=true from fx) Bool.false_ne_true
 | _=>exact absurd (show false=true from fy) Bool.false_ne_true
def eqU (x:V) (u:Value):Bool:=match u with
 | .none=>eqV .non x
 | .bool b=>eqV (.bl b) x
 | .int i _=>eqV (.int i) x
 | .str z _=>eqV (.str z) x
 | _=>false
theorem eqU_of {x y:V} {u:Value} (r:RelV y u) (f:flatV y=true):eqU x u=eqV y x:=by
 cases y with
 | non=>cases r; rfl
 | bl b=>cases r; rfl
 | int i=>obtain ⟨t,rfl⟩:=r; rfl
 | str z=>obtain ⟨t,rfl⟩:=r; rfl
 | _=>exact absurd (show false=true from f) Bool.false_ne_true
theorem any_eqU {x:V}:∀ {xs:List V} {us:List Value},Vals xs us->xs.all flatV=true->us.any (eqU x)=xs.any fun y=>eqV y x
 | _,_,.nil,_=>rfl
 | y :: xs,u :: us,.cons r t,f=>by
  rw [List.all_cons,Bool.and_eq_true] at f
  rw [List.any_cons,List.any_cons,eqU_of r f.1,any_eqU t f.2]
theorem mem_eqAt {A:Around} {s:Shared} {x:V} {v:Value} (rx:RelV x v) (fx:flatV x=true):∀ {xs:List V} {us:List Value},Vals xs us->xs.all flatV=true->∀ u ∈ us,SeqAt.EqAt A s u v (eqU x u)
 | _,_,.nil,_=>fun u hu=>by cases hu
 | y :: xs,u :: us,.cons r t,f=>fun u' hu=>by
  rw [List.all_cons,Bool.and_eq_true] at f
  rcases List.mem_cons.mp hu with rfl | hu
  ·rw [eqU_of r f.1]; exact eqAt_V r rx f.1 fx
  ·exact mem_eqAt rx fx t f.2 u' hu
def inV (x:V) (xs:List V):Bool:=xs.any fun y=>eqV y x
def rIn (K:PySem.W.Frag) (neg:Bool):R2:=fun x y H Q=>∃ p xs,y=.ref p/\(SqL K H p xs\/SqT K H p xs)/\flatV x=true/\xs.all flatV=true/\Q (.bl (if neg then !inV x xs else inV x xs)) H
theorem op_in_seq:OpR X (compareOp .In) (rIn X.K false):=by
 intro pins s σ H x y v u Q I rx ry h
 obtain ⟨p,xs,rfl,hq,fx,fs,q⟩:=h
 cases ry
 rcases hq with hq | hq
 ·obtain ⟨its,r,pl,hz⟩:=I.list hq
  refine SeqAt.in_listAt (eqU x) pl.isList (fun w hw=>mem_eqAt rx fx r fs w (by simpa using hw)) ⟨.bl _,H,I,rfl,?_⟩
  rw [show its.toArray.any (eqU x)=its.any (eqU x) by simp,any_eqU r fs]
  exact q
 ·obtain ⟨its,r,pl,hz⟩:=I.tuple hq
  refine SeqAt.in_tupleAt (eqU x) pl (fun w hw=>mem_eqAt rx fx r fs w (by simpa using hw)) ⟨.bl _,H,I,rfl,?_⟩
  rw [show its.toArray.any (eqU x)=its.any (eqU x) by simp,any_eqU r fs]
  exact q
theorem call_len_seq:CallR X (.builtin "len") (fun xs H Q=>∃ p ys,xs=[.ref p]/\(SqL X.K H p ys\/SqT X.K H p ys)/\Q (.int ys.length) H):=by
 intro pins s σ H xs us Q I r h
 obtain ⟨p,ys,rfl,hq,q⟩:=h
 obtain ⟨u,rfl,rx⟩:=vals1 r
 cases rx
 have hn:=line63
 rcases hq with hq | hq
 ·obtain ⟨its,r',pl,hz⟩:=I.list hq
  have hlen:=r'.length
  exact Calls.call_len_list pl.isList (by simp only [List.size_toArray] <;> (first|lia|omega)) ⟨.int ys.length,H,I.tok _,⟨s.toks + 1,by rw [List.size_toArray,hlen]⟩,q⟩
 ·obtain ⟨its,r',pl,hz⟩:=I.tuple hq
  have hlen:=r'.length
  exact len_tuple pl (by simp only [List.size_toArray] <;> (first|lia|omega)) ⟨.int ys.length,H,I.tok _,⟨s.toks + 1,by rw [List.size_toArray,hlen]⟩,q⟩
theorem call_len_str:CallR X (.builtin "len") (fun xs H Q=>∃ z,xs=[.str z]/\z.length<=sizeLine/\Q (.int z.length) H):=by
 intro pins s σ H xs us Q I r h
 obtain ⟨z,rfl,hz,q⟩:=h
 obtain ⟨u,rfl,t,rfl⟩:=vals1 r
 have hn:=line63
 exact len_str (by (first|lia|omega)) ⟨.int z.length,H,I.tok _,⟨_,rfl⟩,q⟩
theorem call_list_of:CallR X (.type "list") (fun xs H Q=>∃ p ys,xs=[.ref p]/\(SqL X.K H p ys\/SqT X.K H p ys)/\∀ l,H l=none->Q (.ref l) (upd H l (.lst ys))):=by
 intro pins s σ H xs us Q I r h
 obtain ⟨p,ys,rfl,hq,q⟩:=h
 obtain ⟨u,rfl,rx⟩:=vals1 r
 cases rx
 have fin:∀ (its:List Value),Vals ys its->ys.length<=sizeLine->∀ (h':Heap) (c':Nat),(∀ b o',s.heap.get? b=some o'->h'.get? b=some o') ->
   h'.get? s.heap.objs.size=some { cls:=.type "list",dict:=none,data:=.seq its.toArray c',slots:=#[] }->EP X pins σ Q (.ref s.heap.objs.size) { s with heap:=h' }:=fun its r' hz h' c' kp e=>
  ⟨.ref s.heap.objs.size,_,I.laid (t':=s.toks) kp (Nat.le_refl _) (show ObjOk X.prog X.w _ h' _ (.lst ys) from ⟨hz,its,c',r',e⟩),rfl,q _ (I.hok.fresh (Nat.le_refl _))⟩
 rcases hq with hq | hq
 ·obtain ⟨its,r',pl,hz⟩:=I.list hq
  have hlen:=r'.length
  obtain ⟨o,ho,hc,n,hd⟩:=pl.isList
  exact call_list_seq p (.inl rfl) ho hc hd (fun h' c' kp e=>fin its r' hz h' c' kp e) (by simp only [List.size_toArray] <;> (first|lia|omega))
 ·obtain ⟨its,r',pl,hz⟩:=I.tuple hq
  have hlen:=r'.length
  obtain ⟨o,ho,hc,n,hd⟩:=pl
  exact call_list_seq p (.inr rfl) ho hc hd (fun h' c' kp e=>fin its r' hz h' c' kp e) (by simp only [List.size_toArray] <;> (first|lia|omega))
theorem call_tuple_of:CallR X (.type "tuple") (fun xs H Q=>∃ p ys,xs=[.ref p]/\((SqL X.K H p ys/\∀ l,H l=none->Q (.ref l) (upd H l (.tup ys)))\/(SqT X.K H p ys/\Q (.ref p) H))):=by
 intro pins s σ H xs us Q I r h
 obtain ⟨p,ys,rfl,h⟩:=h
 obtain ⟨u,rfl,rx⟩:=vals1 r
 cases rx
 rcases h with ⟨hq,q⟩ | ⟨hq,q⟩
 ·obtain ⟨its,r',pl,hz⟩:=I.list hq
  have hlen:=r'.length
  refine call_tuple_list pl.isList (fun h' kp=>?_) (by simp only [List.size_toArray] <;> (first|lia|omega))
  have I1:Inv X pins σ H { s with heap:=h' }:=I.kept (t':=s.toks) kp
  have I2:Inv X pins σ (upd H h'.objs.size (.tup ys)) { s with heap:=h'.push { cls:=.type "tuple",data:=.seq its.toArray } }:=
   I1.laid (t':=s.toks) (fun b o e=>Heap.get?_push_of_some _ e) (Nat.le_refl _) (show ObjOk X.prog X.w _ _ _ (.tup ys) from ⟨hz,its,r',IsTup.new _ _,TupD.new rfl rfl⟩)
  exact ⟨.ref h'.objs.size,_,I2,rfl,q _ (I1.hok.fresh (Nat.le_refl _))⟩
 ·obtain ⟨its,r',pl,hz⟩:=I.tuple hq
  exact call_tuple_same pl ⟨.ref p,H,I,rfl,q⟩
def tyV (K:PySem.W.Frag) (T:String) (x:V) (H:Hp):Prop:=match x with
 | .str _=>T="str"
 | .int _=>T="int"
 | .ref p=>(T="list"/\∃ xs,SqL K H p xs)\/(T="tuple"/\∃ o,K.lookup p=some o/\o.cls=.type "tuple"/\o.dict=none) \/
   (T="dict"/\((∃ kvs,H p=some (.dK kvs))\/∃ kvs,H p=some (.dT kvs)))\/(T="set"/\∃ S n,H p=some (.set S n))
 | _=>False
theorem tyV_is {pins:List (Addr × Obj)} {σ:St} {H:Hp} {s:Shared} {T:String} {x:V} {v:Value} (I:Inv X pins σ H s) (r:RelV x v) (ty:tyV X.K T x H) :
  s.TypeIs v T/\∀ a,v=.ref a->∃ ob,s.heap.get? a=some ob/\ob.dict=none:=by
 cases x with
 | str z=>
  obtain ⟨t,rfl⟩:=r
  cases (show T="str" from ty)
  exact ⟨typeIs_str s z t,fun _ e=>nomatch e⟩
 | int i=>
  obtain ⟨t,rfl⟩:=r
  cases (show T="int" from ty)
  exact ⟨typeIs_int s i t,fun _ e=>nomatch e⟩
 | ref p=>
  cases r
  rcases ty with ⟨rfl,xs,hq⟩ | ⟨rfl,o,hk,hc,hd⟩ | ⟨rfl,hk⟩ | ⟨rfl,S,n,hk⟩
  ·obtain ⟨its,_,pl,_⟩:=I.list hq
   refine ⟨pl.isList.typeIs,fun a e=>?_⟩
   cases e
   obtain ⟨o,n,e,c,hd,_⟩:=pl
   exact ⟨o,e,hd⟩
  ·refine ⟨⟨o,I.kIn p o hk,hc⟩,fun a e=>?_⟩
   cases e
   exact ⟨o,I.kIn _ o hk,hd⟩
  ·have z:∃ o,s.heap.get? p=some o/\o.ExactDict:=by
    rcases hk with ⟨kvs,hk⟩ | ⟨kvs,hk⟩
    ·obtain ⟨_,_,_,_,o,_,_,e,ex,_⟩:=I.hok p _ hk
     exact ⟨o,e,ex⟩
    ·obtain ⟨_,_,_,_,o,_,_,e,ex,_⟩:=I.hok p _ hk
     exact ⟨o,e,ex⟩
   obtain ⟨o,e,ex⟩:=z
   refine ⟨⟨o,e,ex.1⟩,fun a e2=>?_⟩
   cases e2
   exact ⟨o,e,ex.2.1⟩
  ·obtain ⟨o,_,_,_,e,ex,_⟩:=I.hok p _ hk
   refine ⟨⟨o,e,ex.1⟩,fun a e2=>?_⟩
   cases e2
   exact ⟨o,e,ex.2.1⟩
 | _=>exact False.elim ty
def tBM (K:PySem.W.Frag) (T:String) (r:V->List V->Hp->VK->Prop) (to:TE) (t:TA):TE:=fun σ H Q=>to σ H fun x H1=>tyV K T x H1/\t σ H1 fun xs H2=>r x xs H2 Q
variable {o e:Expr} {es:List Expr} {to:TE} {t:TA} {name:Str} {apos cpos:Pos} {T id:String} {r:V->List V->Hp->VK->Prop}
theorem pe_bm (pa:PlainAttrs T) (slot:Slot T name id) (hty:typeOf (.builtin id)=pure (.type "method_descriptor")) (hm:MtR X id r) (ho:PE X o to) (ha:PA X (e :: es) t)
  (hbase:attributeBase o name X.env (eval o X.env)=eval o X.env:=by rfl)
  (hfew:((backTo cpos (starEach (e :: es) X.env)).all (fun x=>!x.1) && (backToKw cpos (keywordEach [] X.env)).all (fun x=>x.1.isSome)
   && decide ((e :: es).length + ([]:List Keyword).length + (if ([]:List Keyword).isEmpty then 0 else 1) < 30))=true:=by rfl)
  (hline:(apos.endLine == cpos.line)=true:=by rfl) (hs:starEach (e :: es) X.env=(false,eval e X.env) :: starEach es X.env:=by rfl) (hplain:(backTo cpos (starEach es X.env)).any (·.1)=false:=by rfl) :
  PE X (.Call (.Attribute o name apos) (e :: es) [] cpos) (tBM X.K T r to t):=by
 intro pins s σ H Q I h
 refine wpAny_Call_method_late hbase hfew hline rfl (thn (ho pins s σ H _ I h) fun v s1 ⟨x,H1,I1,r1,ty,q1⟩=>?_)
 obtain ⟨h1,h2⟩:=tyV_is I1 r1 ty
 refine ⟨T,id,pa,slot,hty,h1,h2,?_⟩
 have hA:=ha cpos pins s1 σ H1 _ I1 q1
 rw [hs] at hA ⊢
 refine Calls.callWith_builtin (by show (false || (backTo cpos (starEach es X.env)).any (·.1))=false; rw [hplain] <;> rfl) (Calls.evalArgs_plain ?_)
 exact thn hA fun us s2 ⟨vs,H2,I2,r2,q2⟩=>hm pins s2 σ H2 x vs v us Q I2 r1 r2 q2
end
end L2
namespace L2
open PySem PySem.Spec PyProof.Rows
def MtM (X:Cx) (id:String) (r:V->List V->Hp->VK->Prop):Prop:=
 ∀ (pins:List (Addr × Obj)) (s:Shared) (σ:St) (H:Hp) (x:V) (xs:List V) (v:Value) (us:List Value) (Q:VK),Inv X pins σ H s->RelV x v->Vals xs us->r x xs H Q ->
  wpAny (model X.prog X.w) X.A (call (.builtin id) (v :: us)) (EP X pins σ Q) X.xe s
theorem Vals.one:∀ {x:V} {us:List Value},Vals [x] us->∃ u,us=[u]/\RelV x u
 | _,_,.cons r .nil=>⟨_,rfl,r⟩
section
variable {X:Cx} {pins:List (Addr × Obj)} {σ:St} {H:Hp} {s:Shared} {l b:Addr} {xs ys zs:List V}
theorem Inv.lset {its its':List Value} {n:Nat} {f:Array Value->Array Value} {t':Nat} (I:Inv X pins σ H s) (hH:H l=some (.lst xs))
  (e:s.heap.get? l=some { cls:=.type "list",data:=.seq its.toArray n }) (hf:f its.toArray=its'.toArray) (hv:Vals ys its') (hz:ys.length<=sizeLine) :
  Inv X pins σ (upd H l (.lst ys)) { s with heap:=s.heap.update l (Obj.mapSeq f),toks:=t' }:=by
 have q:=PySem.IsL.update e f
 rw [hf] at q
 refine I.write (x:=l) (e:=l) (by rw [hH]; exact trivial) (.inl rfl) (fun b' u hb hu=>(Heap.get?_update_other s.heap (Obj.mapSeq f) (Ne.symm hb)).trans hu) ⟨_,q⟩ ?_
 exact ⟨hz,its',_,hv,q⟩
theorem Inv.fresh (I:Inv X pins σ H s):H s.heap.objs.size=none:=I.hok.fresh (Nat.le_refl _)
theorem Inv.lstM (I:Inv X pins σ H s) (hH:H l=some (.lst xs)):xs.length<=sizeLine/\∃ (its:List Value) (n:Nat),Vals xs its/\xs.length=its.length/\s.heap.get? l=some { cls:=.type "list",data:=.seq its.toArray n }:=by
 obtain ⟨z,its,n,r,e⟩:=I.hok l _ hH
 exact ⟨z,its,n,r,r.length,e⟩
end
section
variable {X:Cx}
def rAppend:V->List V->Hp->VK->Prop:=fun x vs H Q=>∃ l xs y,x=.ref l/\vs=[y]/\H l=some (.lst xs)/\xs.length < sizeLine/\Q .non (upd H l (.lst (xs ++ [y])))
theorem mt_append:MtM X "list.append" rAppend:=by
 intro pins s σ H x vs v us Q I rx rv h
 obtain ⟨l,xs,y,rfl,rfl,hH,hz,q⟩:=h
 cases rx
 obtain ⟨u,rfl,ru⟩:=rv.one
 obtain ⟨z,its,n,r,hl,e⟩:=I.lstM hH
 refine call_meets F.slot_list_append ⟨_,e,rfl⟩ F.entry_list_append (F.args_list_append_2 _ _) (PySem.list_append l its.toArray n u (by rw [List.size_toArray]; (first|lia|omega))) ⟨e,?_⟩
 refine ⟨.non,_,I.lset (its':=its ++ [u]) hH e (by simp) (r.append (.cons ru .nil)) ?_,rfl,q⟩
 rw [List.length_append,List.length_singleton]
 (first|lia|omega)
end
section
variable {prog:Program} {w:World} {A:Around} {E:Value->Shared->Prop} {s:Shared}
set_option maxRecDepth 100000 in
end
section
variable {X:Cx}
end
end L2
namespace L2
open PySem PySem.Spec PyProof.Rows
section
variable {κ:Type} [DecidableEq κ]
def valV (kvs:List (κ × V)) (k:κ):Option V:=(kvs.find? fun kv=>decide (kv.1=k)).map (·.2)
def putK (kvs:List (κ × V)) (k:κ) (v:V):List (κ × V):=
 if (kvs.any fun kv=>decide (kv.1=k))=true then kvs.map (fun kv=>if kv.1=k then (kv.1,v) else kv) else kvs ++ [(k,v)]
theorem valV_pos {p:κ × V} {r:List (κ × V)} {k:κ} (e:p.1=k):valV (p :: r) k=some p.2:=by simp [valV,List.find?_cons,e]
theorem valV_neg {p:κ × V} {r:List (κ × V)} {k:κ} (e:¬ p.1=k):valV (p :: r) k=valV r k:=by simp [valV,List.find?_cons,e]
theorem valV_any (k:κ):∀ kvs:List (κ × V),(kvs.any fun kv=>decide (kv.1=k))=(valV kvs k).isSome
 | []=>rfl
 | p :: r=>by
  rw [List.any_cons]
  by_cases e:p.1=k
  ·simp only [valV_pos e,decide_eq_true e,Bool.true_or,Option.isSome_some]
  ·rw [valV_neg e,decide_eq_false e,Bool.false_or]; exact valV_any k r
theorem length_putK (kvs:List (κ × V)) (k:κ) (v:V):(putK kvs k v).length<=kvs.length + 1:=by
 unfold putK
 split
 ·rw [List.length_map]; (first|lia|omega)
 ·rw [List.length_append,List.length_cons,List.length_nil]; (first|lia|omega)
theorem RelO.isSome_eq {o:Option V} {u:Option Value} (r:RelO o u):o.isSome=u.isSome:=by
 cases o with
 | none=>cases u with
  | none=>rfl
  | some _=>exact (show False from r).elim
 | some _=>cases u with
  | none=>exact (show False from r).elim
  | some _=>rfl
theorem KV.val {kvs:List (κ × V)} {vs:List (κ × Value)} (r:KV kvs vs) (k:κ):RelO (valV kvs k) (valueAt vs k):=by
 unfold KV at r
 induction r with
 | nil=>exact True.intro
 | @cons p q ps qs h t ih=>
  obtain ⟨h1,h2⟩:=h
  by_cases e:p.1=k
  ·have e':q.1=k:=h1.symm.trans e
   have b:valueAt (q :: qs) k=some q.2:=by simp [valueAt,List.find?_cons,e']
   rw [valV_pos e,b]; exact h2
  ·have e':¬ q.1=k:=fun z=>e (h1.trans z)
   have b:valueAt (q :: qs) k=valueAt qs k:=by simp [valueAt,List.find?_cons,e']
   rw [valV_neg e,b]; exact ih
theorem KV.any {kvs:List (κ × V)} {vs:List (κ × Value)} (r:KV kvs vs) (k:κ):(kvs.any fun kv=>decide (kv.1=k))=vs.any fun kv=>decide (kv.1=k):=by
 unfold KV at r
 induction r with
 | nil=>rfl
 | cons h t ih=>rw [List.any_cons,List.any_cons,ih,h.1]
theorem KV.repl {kvs:List (κ × V)} {vs:List (κ × Value)} (r:KV kvs vs) (k:κ) {y:V} {u:Value} (ry:RelV y u) :
  KV (kvs.map fun kv=>if kv.1=k then (kv.1,y) else kv) (vs.map fun kv=>if kv.1=k then (kv.1,u) else kv):=by
 unfold KV at r ⊢
 induction r with
 | nil=>exact .nil
 | @cons p q ps qs h t ih=>
  rw [List.map_cons,List.map_cons]
  refine .cons ?_ ih
  obtain ⟨h1,h2⟩:=h
  by_cases e:p.1=k
  ·rw [if_pos e,if_pos (h1.symm.trans e)]; exact ⟨h1,ry⟩
  ·rw [if_neg e,if_neg (fun z=>e (h1.trans z))]; exact ⟨h1,h2⟩
theorem KV.put {kvs:List (κ × V)} {vs:List (κ × Value)} (r:KV kvs vs) (k:κ) {y:V} {u:Value} (ry:RelV y u):KV (putK kvs k y) (stored vs k u):=by
 unfold putK stored
 rw [r.any k]
 by_cases e:(vs.any fun kv=>decide (kv.1=k))=true
 ·rw [if_pos e,if_pos e]; exact r.repl k ry
 ·rw [if_neg e,if_neg e]; exact Paired.snoc r ⟨rfl,ry⟩
theorem KV.length {kvs:List (κ × V)} {vs:List (κ × Value)} (r:KV kvs vs):kvs.length=vs.length:=Paired.length r
end
theorem kV_is {P:Program} {w:World} {k:Key} {u:Value} (r:RelV (kV k) u):(mixKind P w).is k u=true:=by
 cases k with
 | inl i=>obtain ⟨t,e⟩:=(show ∃ t,u=Value.int i t from r); subst e; exact mixKind_int P w i t
 | inr x=>obtain ⟨t,e⟩:=(show ∃ t,u=Value.str x t from r); subst e; exact mixKind_str P w x t
theorem items_are {P:Program} {w:World}:∀ {ks:List Key} {us:List Value},Vals (ks.map kV) us->ItemsAre (mixKind P w) ks us
 | [],_,r=>by rw [List.map_nil] at r; cases r; exact .nil
 | k :: ks,_,r=>by
  rw [List.map_cons] at r
  cases r with
  | cons h t=>exact .cons (kV_is h) (items_are t)
abbrev KT (H:Hp):List (List Key × V)->List (List Key × Addr × Value)->Prop:=Paired fun p q=>p.1=q.1/\H q.2.1=some (.tup (p.1.map kV))/\RelV p.2 q.2.2
theorem KT.val {H:Hp} {kvs:List (List Key × V)} {xs:List (List Key × Addr × Value)} (r:KT H kvs xs) (k:List Key):RelO (valV kvs k) ((atKey xs k).map (·.2)):=by
 induction r with
 | nil=>exact True.intro
 | @cons p q ps qs h t ih=>
  obtain ⟨h1,_,h2⟩:=h
  by_cases e:p.1=k
  ·have e':q.1=k:=h1.symm.trans e
   have b:atKey (q :: qs) k=some q.2:=by simp [atKey,List.find?_cons,e']
   rw [valV_pos e,b]; exact h2
  ·have e':¬ q.1=k:=fun z=>e (h1.trans z)
   have b:atKey (q :: qs) k=atKey qs k:=by simp [atKey,List.find?_cons,e']
   rw [valV_neg e,b]; exact ih
theorem KT.repl {H:Hp} {kvs:List (List Key × V)} {xs:List (List Key × Addr × Value)} (r:KT H kvs xs) (k:List Key) {y:V} {u:Value} (ry:RelV y u) :
  KT H (kvs.map fun kv=>if kv.1=k then (kv.1,y) else kv) (xs.map (putAt k u)):=by
 induction r with
 | nil=>exact .nil
 | @cons p q ps qs h t ih=>
  rw [List.map_cons,List.map_cons]
  refine .cons ?_ ih
  obtain ⟨h1,h2,h3⟩:=h
  unfold putAt
  by_cases e:p.1=k
  ·rw [if_pos e,if_pos (h1.symm.trans e)]; exact ⟨h1,h2,ry⟩
  ·rw [if_neg e,if_neg (fun z=>e (h1.trans z))]; exact ⟨h1,h2,h3⟩
theorem KT.put {H:Hp} {kvs:List (List Key × V)} {xs:List (List Key × Addr × Value)} (r:KT H kvs xs) (k:List Key) {b:Addr} {y:V} {u:Value} (hb:H b=some (.tup (k.map kV))) (ry:RelV y u) :
  KT H (putK kvs k y) (storedH xs k b u):=by
 have e:(kvs.any fun kv=>decide (kv.1=k))=(atKey xs k).isSome:=by
  rw [valV_any,(r.val k).isSome_eq,Option.isSome_map]
 unfold putK storedH
 rw [e]
 by_cases q:(atKey xs k).isSome=true
 ·rw [if_pos q,if_pos q]; exact r.repl k ry
 ·rw [if_neg q,if_neg q]; exact Paired.snoc r ⟨rfl,hb,ry⟩
theorem KT.keeps {H H':Hp} {kvs:List (List Key × V)} {xs:List (List Key × Addr × Value)} (r:KT H kvs xs) (ht:∀ b ys,H b=some (.tup ys)->H' b=some (.tup ys)):KT H' kvs xs:=
 Paired.mapP r fun _ _ z=>⟨z.1,ht _ _ z.2.1,z.2.2⟩
section
variable {P:Program} {w:World} {H:Hp} {h:Heap} {a:Addr}
theorem rd_of {u:HO} (ok:HOk P w H h) (e:Rd H a u):ObjOk P w H h a u:=e.ok ok
theorem dk_rd {kvs:List (Key × V)} (ok:HOk P w H h) (e:Rd H a (.dK kvs)):kvs.length<=sizeLine/\(a == sysModules)=false/\∃ vs,KV kvs vs/\h.DictOf (mixKind P w) a vs:=
 show ObjOk P w H h a (.dK kvs) from rd_of ok e
theorem dk_of {kvs:List (Key × V)} (ok:HOk P w H h) (e:H a=some (.dK kvs)):kvs.length<=sizeLine/\(a == sysModules)=false/\∃ vs,KV kvs vs/\h.DictOf (mixKind P w) a vs:=dk_rd ok (.inl e)
theorem key_of {ks:List Key} (ok:HOk P w H h) (e:H a=some (.tup (ks.map kV))):(tupleKind (mixKind P w)).is h ks a:=by
 obtain ⟨_,its,r,⟨o,h1,h2,n,h3⟩,_⟩:=(show ObjOk P w H h a (.tup (ks.map kV)) from ok a _ e)
 exact ⟨o,its.toArray,n,h1,h2,h3,by simpa using items_are r⟩
theorem dt_rd {kvs:List (List Key × V)} (ok:HOk P w H h) (e:Rd H a (.dT kvs)):kvs.length<=sizeLine/\(a == sysModules)=false /\
  ∃ xs,KT H kvs xs/\h.DictOfH (tupleKind (mixKind P w)) a xs:=by
 obtain ⟨z,y,xs,r,o,es,ep,h1,h2,h3,h4,h5⟩:=(show ObjOk P w H h a (.dT kvs) from rd_of ok e)
 refine ⟨z,y,xs,r,o,es,ep,h1,h2,h3,h4,fun x hx=>?_,h5⟩
 have all:∀ {l:List (List Key × V)} {m:List (List Key × Addr × Value)},KT H l m->∀ x ∈ m,(tupleKind (mixKind P w)).is h x.1 x.2.1:=by
  intro l m q
  induction q with
  | nil=>intro x hx; exact nomatch hx
  | @cons p q ps qs hq t ih=>
   intro x hx
   rcases List.mem_cons.mp hx with e | hx
   ·subst e
    exact key_of ok (by rw [<-hq.1]; exact hq.2.1)
   ·exact ih x hx
 exact all r x hx
theorem dt_of {kvs:List (List Key × V)} (ok:HOk P w H h) (e:H a=some (.dT kvs)):kvs.length<=sizeLine/\(a == sysModules)=false /\
  ∃ xs,KT H kvs xs/\h.DictOfH (tupleKind (mixKind P w)) a xs:=dt_rd ok (.inl e)
end
def DGet (H:Hp) (a:Addr) (y:V) (r:Option V):Prop:=
 (∃ kvs k,Rd H a (.dK kvs)/\y=kV k/\r=valV kvs k)\/∃ kvs k b,Rd H a (.dT kvs)/\y=.ref b/\H b=some (.tup (k.map kV))/\r=valV kvs k
def DPut (H:Hp) (a:Addr) (y v:V) (H':Hp):Prop:=
 (∃ kvs k,H a=some (.dK kvs)/\y=kV k/\kvs.length < sizeLine/\H'=upd H a (.dK (putK kvs k v))) \/
 ∃ kvs k b,H a=some (.dT kvs)/\y=.ref b/\H b=some (.tup (k.map kV))/\kvs.length < sizeLine/\H'=upd H a (.dT (putK kvs k v))
theorem DGet.k {H:Hp} {a:Addr} {kvs:List (Key × V)} {k:Key} (e:H a=some (.dK kvs)):DGet H a (kV k) (valV kvs k):=.inl ⟨kvs,k,.inl e,rfl,rfl⟩
theorem DPut.k {H:Hp} {a:Addr} {kvs:List (Key × V)} {k:Key} {v:V} (e:H a=some (.dK kvs)) (hl:kvs.length < sizeLine):DPut H a (kV k) v (upd H a (.dK (putK kvs k v))):=.inl ⟨kvs,k,e,rfl,hl,rfl⟩
section
variable {X:Cx} {pins:List (Addr × Obj)} {σ:St} {H:Hp} {s:Shared} {a:Addr} {y v:V} {u r:Value} {o:Option V} {A:Around} {E:Value->Shared->Prop}
theorem Inv.big (I:Inv X pins σ H s):sysModules < s.heap.objs.size:=by
 have h:mainGlobals < s.heap.objs.size:=(I.mod.glob.keeps I.bk).lt
 exact Nat.lt_trans (by decide) h
theorem d_getItem {Q:Value->Shared->Prop} (hu:A.units + 1 < cLine) (I:Inv X pins σ H s) (g:DGet H a y (some v)) (ry:RelV y u) (h:∀ w' s',Inv X pins σ H s'->RelV v w'->Q w' s') :
  wpAny (model X.prog X.w) A (getItem (.ref a) u) Q E s:=by
 rcases g with ⟨kvs,k,e,ey,l⟩ | ⟨kvs,k,b,e,ey,eb,l⟩
 ·subst ey
  obtain ⟨z,hd,vs,rel,dd⟩:=dk_rd I.hok e
  obtain ⟨w',hw,rw'⟩:=RelO.some_of (v:=v) (o:=valueAt vs k) (by rw [l]; exact rel.val k)
  exact wpAny_getItem_of (kV_is ry) dd.mapOf hw (h w' _ (I.tok _) rw')
 ·subst ey
  cases (show u=Value.ref b from ry)
  obtain ⟨z,hd,xs,rel,dd⟩:=dt_rd I.hok e
  obtain ⟨w',hw,rw'⟩:=RelO.some_of (v:=v) (o:=(atKey xs k).map (·.2)) (by rw [l]; exact rel.val k)
  obtain ⟨p,hp,hp2⟩:=Option.map_eq_some_iff.mp hw
  refine wpAny_getItem_heap (tupleKind_room_in1 hu) (key_of I.hok eb) dd hp ?_
  rw [hp2]
  exact h w' _ (I.tok _) rw'
theorem d_write {h':Heap} {t':Nat} {ob:HO} (I:Inv X pins σ H s) (mu:Mut (H a)) (hs:Heap.SameBut a s.heap h') (he:∃ q,h'.get? a=some q) (new:ObjOk X.prog X.w (upd H a ob) h' a ob) :
  Inv X pins σ (upd H a ob) { s with heap:=h',toks:=t' }:=
 I.write (x:=a) (e:=a) mu (.inl rfl) (fun b q hb z=>(hs.2 b hb).trans z) he new
theorem dk_new {P:Program} {w:World} {H':Hp} {h':Heap} {kvs:List (Key × V)} {vs:List (Key × Value)} (z:kvs.length<=sizeLine) (hd:(a == sysModules)=false) (rel:KV kvs vs) (dd:h'.DictOf (mixKind P w) a vs) :
  ObjOk P w H' h' a (.dK kvs):=⟨z,hd,vs,rel,dd⟩
theorem d_setItem {H':Hp} {Q:Unit->Shared->Prop} (hu:A.units + 1 < cLine) (I:Inv X pins σ H s) (g:DPut H a y v H') (ry:RelV y u) (rv:RelV v r) (h:∀ s',Inv X pins σ H' s'->Q () s') :
  wpAny (model X.prog X.w) A (setItem (.ref a) u r) Q E s:=by
 rcases g with ⟨kvs,k,e,ey,l,eH⟩ | ⟨kvs,k,b,e,ey,eb,l,eH⟩
 ·subst ey eH
  obtain ⟨z,hd,vs,rel,dd⟩:=dk_of I.hok e
  have hz:vs.length<=sizeLine:=by rw [<-rel.length]; exact z
  have hl:(putK kvs k v).length<=sizeLine:=by have:=length_putK kvs k v; (first|lia|omega)
  refine wpAny_setItem_pairs (hsz:=hz) (kV_is ry) dd fun h' dd' hs=>h _ ?_
  have he:∃ q,h'.get? a=some q:=let ⟨q,_,_,hq,_⟩:=dd'; ⟨q,hq⟩
  exact d_write I (by rw [e]; exact True.intro) hs he (dk_new hl hd (rel.put k rv) dd')
 ·subst ey eH
  cases (show u=Value.ref b from ry)
  obtain ⟨z,hd,xs,rel,dd⟩:=dt_of I.hok e
  have hz:xs.length<=sizeLine:=by rw [<-Paired.length rel]; exact z
  have hl:(putK kvs k v).length<=sizeLine:=by have:=length_putK kvs k v; (first|lia|omega)
  refine wpAny_setItem_heap (hsz:=hz) (tupleKind_room_in1 hu) (key_of I.hok eb) dd fun h' dd' hs=>h _ ?_
  obtain ⟨q,es,ep,hq,h2,h3,h4,_,h5⟩:=dd'
  refine d_write I (by rw [e]; exact True.intro) hs ⟨q,hq⟩ ⟨hl,hd,_,(rel.put k eb rv).keeps fun c ys ec=>?_,q,es,ep,hq,h2,h3,h4,h5⟩
  rw [upd_ne (ne_of ec e (fun z=>nomatch z))]
  exact ec
end
section
variable {X:Cx} {pins:List (Addr × Obj)} {σ:St} {H:Hp} {s:Shared} {a:Addr} {kvs:List (Key × V)} {k:Key} {u:Value} {A:Around} {E:Value->Shared->Prop}
end
def NoSl (i:Expr):Prop:=∀ ov iv,subscripted i false ov iv=operate [ov,iv] (getItem ov iv)
theorem subD_of {prog:Program} {w:World} {A:Around} {E:Value->Shared->Prop} {s:Shared} {env:Env} {value slice:Expr} {pos:Pos} {T id:String} {Q:Value->Shared->Prop}
  (hl:typeLookup (.type T) "__getitem__"=pure (some (.builtin id))) (hs:NoSl slice)
  (h:wpAny (model prog w) A (eval value env) (fun o s₁=>wpAny (model prog w) A (eval slice env) (fun i s₂=>s₂.TypeIs o T/\wpAny (model prog w) A (getItem o i) Q E s₂) E s₁) E s) :
  wpAny (model prog w) A (eval (.Subscript value slice pos) env) Q E s:=by
 refine Subscript_ (wpAny_mono h (fun o s₁ h₁=>wpAny_mono h₁ (fun i s₂ h₂=>?_) fun _ _ x=>x) fun _ _ x=>x)
 obtain ⟨hT,h₂⟩:=h₂
 unfold subscriptTail
 refine wpAny_bind ?_
 rw [getitemInPython_of_ne hT.not_modules]
 refine wpAny_bind (wpAny_specialOf hT hl ?_)
 have fin:wpAny (model prog w) A (subscripted slice false o i) (fun r s₃=>wpAny (model prog w) A (letTemporaryGo value o r >>= fun _=>pure r) Q E s₃) E s₂:=by
  rw [hs o i]
  exact wpAny_operating (wpAny_mono h₂ (fun r s₃ h₃=>wpAny_bind (wpAny_letTemporaryGo (wpAny_pure h₃))) fun _ _ x=>x)
 first
  | exact wpAny_pure (wpAny_bind fin)
  | exact wpAny_bind (wpAny_pure (wpAny_bind fin))
  | exact wpAny_bind fin
theorem dict_typeIs {X:Cx} {pins:List (Addr × Obj)} {σ:St} {H:Hp} {s:Shared} {a:Addr} {y:V} {o:Option V} (I:Inv X pins σ H s) (g:DGet H a y o):s.TypeIs (.ref a) "dict":=by
 rcases g with ⟨kvs,k,e,_,_⟩ | ⟨kvs,k,b,e,_,_,_⟩
 ·obtain ⟨_,_,vs,_,dd⟩:=dk_rd I.hok e
  exact dd.typeIs
 ·obtain ⟨_,_,xs,_,dd⟩:=dt_rd I.hok e
  exact dd.typeIs
def tDGet (td ty:TE):TE:=fun σ H Q=>td σ H fun x H1=>ty σ H1 fun y H2=>∃ a v,x=.ref a/\DGet H2 a y (some v)/\Q v H2
def sDPut (td ty tv:TE):TS:=fun D σ H=>tv σ H fun v H1=>td σ H1 fun x H2=>ty σ H2 fun y H3=>∃ a H4,x=.ref a/\DPut H3 a y v H4/\D.nx σ H4
section
variable {X:Cx} {o i e value:Expr} {pos pos' tpos:Pos} {td ty tv:TE}
theorem pe_dget (hu:X.A.units + 1 < cLine) (ho:PE X o td) (hi:PE X i ty) (hs:NoSl i):PE X (.Subscript o i pos) (tDGet td ty):=by
 intro pins s σ H Q I h
 refine subD_of PySem.F.slot_dict_getitem.lookup hs (thn (ho pins s σ H _ I h) fun u s1 ⟨x,H1,I1,rx,q1⟩=>thn (hi pins s1 σ H1 _ I1 q1) fun iv s2 ⟨y,H2,I2,ry,a,v,ex,g,q2⟩=>?_)
 subst ex
 obtain rfl:u=Value.ref a:=rx
 exact ⟨dict_typeIs I2 g,d_getItem hu I2 g ry fun w' s3 I3 rw'=>⟨v,H2,I3,rw',q2⟩⟩
theorem ps_dput (hu:X.A.units + 1 < cLine) (ho:PE X o td) (hi:PE X i ty) (hv:PE X value tv) (hs:swapsWith value (some (.Subscript o i pos')) pos.line X.env=pure false) :
  PS X (.Assign [.Subscript o i pos'] value pos) (sDPut td ty tv):=by
 intro pins s σ H D I h
 refine wpAny_Assign_Subscript (thn (hv pins s σ H _ I h) fun r s1 ⟨v,H1,I1,rv,q1⟩=>thn (ho pins s1 σ H1 _ I1 q1) fun u s2 ⟨x,H2,I2,rx,q2⟩=>thn (hi pins s2 σ H2 _ I2 q2) fun iv s3 ⟨y,H3,I3,ry,a,H4,ex,g,q3⟩=>?_) hs
 subst ex
 obtain rfl:u=Value.ref a:=rx
 exact d_setItem hu I3 g ry rv fun s4 I4=>⟨σ,H4,I4,q3⟩
end
theorem dk_empty {P:Program} {w:World} {H:Hp} (h:Heap) (hb:sysModules < h.objs.size):ObjOk P w H (h.push { cls:=.type "dict",data:=.dict #[] }) h.objs.size (.dK []):=
 ⟨Nat.zero_le _,beq_eq_false_iff_ne.mpr (Ne.symm (Nat.ne_of_lt hb)),[],.nil,Heap.DictOf.new h⟩
section
variable {X:Cx} {pos:Pos}
end
def tPairs:List (TE × TE)->St->Hp->(List (V × V)->Hp->Prop)->Prop
 | [],_,H,Q=>Q [] H
 | (tk,tv) :: r,σ,H,Q=>tk σ H fun x H1=>tv σ H1 fun y H2=>tPairs r σ H2 fun ps H3=>Q ((x,y) :: ps) H3
abbrev VV:List (V × V)->List (Value × Value)->Prop:=Paired fun p q=>RelV p.1 q.1/\RelV p.2 q.2
def PPs (X:Cx) (pos:Pos) (keys:List (Option Expr)) (values:List Expr) (trs:List (TE × TE)):Prop:=
 ∀ (pins:List (Addr × Obj)) (s:Shared) (σ:St) (H:Hp) (Q:List (V × V)->Hp->Prop),Inv X pins σ H s->tPairs trs σ H Q ->
  wpAny (model X.prog X.w) X.A (evalPairs (pairTrees keys values X.env pos)) (fun vs s'=>∃ ps H',Inv X pins σ H' s'/\VV ps vs/\Q ps H') X.xe s
theorem pps_nil {X:Cx} {pos:Pos}:PPs X pos [] [] []:=fun pins s σ H Q I h=>pairTrees_nil_walk ⟨[],H,I,.nil,h⟩
theorem pps_cons {X:Cx} {pos:Pos} {k v:Expr} {ks:List (Option Expr)} {vs:List Expr} {tk tv:TE} {trs:List (TE × TE)} (hk:PE X k tk) (hv:PE X v tv) (hr:PPs X pos ks vs trs) :
  PPs X pos (some k :: ks) (v :: vs) ((tk,tv) :: trs):=fun pins s σ H Q I h=>
 pairTrees_cons_walk (thn (hk pins s σ H _ I h) fun u s1 ⟨x,H1,I1,rx,q1⟩=>thn (hv pins s1 σ H1 _ I1 q1) fun w2 s2 ⟨y,H2,I2,ry,q2⟩=>
  thn (hr pins s2 σ H2 _ I2 q2) fun ws s3 ⟨ps,H3,I3,rel,q3⟩=>⟨(x,y) :: ps,H3,I3,.cons ⟨rx,ry⟩ rel,q3⟩)
def mergeK (kvs more:List (Key × V)):List (Key × V):=more.foldl (fun acc kv=>putK acc kv.1 kv.2) kvs
theorem KV.merge:∀ {more:List (Key × V)} {rs:List (Key × Value)} {kvs:List (Key × V)} {vs:List (Key × Value)},KV more rs->KV kvs vs->KV (mergeK kvs more) (merged vs rs):=by
 intro more rs kvs vs r
 unfold KV at r
 induction r generalizing kvs vs with
 | nil=>intro q; exact q
 | @cons p q ps qs h t ih=>
  intro r0
  have e:KV (putK kvs p.1 p.2) (stored vs q.1 q.2):=by
   have:=r0.put p.1 h.2
   rw [<-h.1]; exact this
  exact ih e
theorem length_mergeK:∀ (more kvs:List (Key × V)),(mergeK kvs more).length<=kvs.length + more.length
 | [],kvs=>by show kvs.length<=kvs.length + 0; (first|lia|omega)
 | p :: r,kvs=>by
  have h1:=length_mergeK r (putK kvs p.1 p.2)
  have h2:=length_putK kvs p.1 p.2
  show (mergeK (putK kvs p.1 p.2) r).length<=_
  rw [List.length_cons]; (first|lia|omega)
theorem carries_of {P:Program} {w:World}:∀ {kvs:List (Key × V)} {ws:List (Value × Value)},VV (kvs.map fun kv=>(kV kv.1,kv.2)) ws->∃ rs,Carries (mixKind P w) ws rs/\KV kvs rs
 | [],_,r=>by rw [List.map_nil] at r; cases r; exact ⟨[],True.intro,.nil⟩
 | p :: kvs,_,r=>by
  rw [List.map_cons] at r
  cases r with
  | @cons a b as bs h t=>
   obtain ⟨rs,c,q⟩:=carries_of (P:=P) (w:=w) t
   obtain ⟨b1,b2⟩:=b
   exact ⟨(p.1,b2) :: rs,⟨kV_is h.1,rfl,c⟩,.cons ⟨rfl,h.2⟩ q⟩
def tDisp (trs:List (TE × TE)):TE:=fun σ H Q=>∀ p,H p=none->tPairs trs σ (upd H p (.dK [])) fun ps H2=>H2 p=some (.dK [])/\∃ kvs:List (Key × V),ps=kvs.map (fun kv=>(kV kv.1,kv.2))/\kvs.length<=15/\Q (.ref p) (upd H2 p (.dK (mergeK [] kvs)))
theorem pe_disp {X:Cx} {pos:Pos} {keys:List (Option Expr)} {values:List Expr} {trs:List (TE × TE)} (h:PPs X pos keys values trs) (hall:keys.all (·.isSome)=true) (hl:keys.length=values.length) (h0:keys ≠ [])
  (h15:keys.length<=15):PE X (.Dict keys values pos) (tDisp trs):=by
 intro pins s σ H Q I q
 have hn:=I.hok.fresh (Nat.le_refl s.heap.objs.size)
 have I1:=I.laid (a:=s.heap.objs.size) (o:=.dK []) (h':=s.heap.push { cls:=.type "dict",data:=.dict #[] }) (t':=s.toks) (fun _ _ q=>Heap.get?_push_of_some _ q) (Nat.le_refl _) (dk_empty s.heap I.big)
 refine wpAny_Dict_walk (knd:=mixKind X.prog X.w) hall hl h0 h15 (thn (h pins _ σ _ _ I1 (q _ hn)) fun ws s2 ⟨ps,H2,I2,rel,e,kvs,ep,lk,q2⟩=>?_)
 subst ep
 obtain ⟨rs,c,rk⟩:=carries_of (P:=X.prog) (w:=X.w) rel
 obtain ⟨z,hd,vs0,r0,dd⟩:=dk_of I2.hok e
 cases r0
 refine ⟨rs,c,dd,fun h' dd' hs=>⟨.ref s.heap.objs.size,_,?_,rfl,q2⟩⟩
 have hz:(mergeK [] kvs).length<=sizeLine:=by
  have h1:=length_mergeK kvs []
  rw [List.length_nil] at h1
  rw [sizeLine_eq]; (first|lia|omega)
 have he:∃ q,h'.get? s.heap.objs.size=some q:=let ⟨q,_,_,hq,_⟩:=dd'; ⟨q,hq⟩
 exact d_write I2 (by rw [e]; exact True.intro) hs he (dk_new hz hd (rk.merge .nil) dd')
section
variable {X:Cx} {pins:List (Addr × Obj)} {σ:St} {H:Hp} {s:Shared} {a:Addr} {y d:V} {u r:Value} {o:Option V} {A:Around} {E:Value->Shared->Prop}
end
section
variable {X:Cx} {o e f:Expr} {apos cpos:Pos} {td ty tx:TE}
end
section
variable {X:Cx} {pins:List (Addr × Obj)} {σ:St} {H:Hp} {s:Shared} {a:Addr} {kvs:List (Key × V)} {A:Around} {E:Value->Shared->Prop}
end
section
variable {X:Cx} {pins:List (Addr × Obj)} {σ:St} {H:Hp} {s:Shared} {a:Addr} {y:V} {u:Value} {A:Around} {E:Value->Shared->Prop}
end
end L2
namespace Att
open PySem PySem.W PySem.Calls PyProof.Rows
theorem ints_of_wellAll {P:Params} {h:Heap}:∀ (ns:List Int) (vs:List Value),WellAll P h vs (ns.map WData.int)->IntsAre vs ns:=by
 intro ns
 induction ns with
 | nil=>
  intro vs w
  rw [List.map_nil] at w
  cases w
  exact .nil
 | cons n ns ih=>
  intro vs w
  rw [List.map_cons] at w
  cases w with
  | cons a b=>
   cases a
   exact .cons _ _ (ih _ b)
theorem script_of {l:OpenLaw} {n:Nat} (hn:l.most=some n) {P:Params} {h:Heap} {args:List WData} {vals:List Value}
  (hpre:l.row.toRowW.claim.pre args=true) (hwl:WellAll P h vals args) :
  ∃ a vs ns,vals=[Value.ref a]/\args=[WData.list (ns.map WData.int)]/\h.get? a=some { cls:=.type "list",data:=.seq vs.toArray }/\IntsAre vs ns/\ns.length<=n:=by
 have hsh:WShape.hasAll [] args [.list .int]=true:=(pre_splitW hpre).1
 have hc:l.pre.holds [] { args:=args } = true:=(pre_splitW hpre).2
 obtain ⟨d,r,rfl,h1,h2⟩:=hasAllW_cons hsh
 obtain rfl:=hasAllW_nil h2
 obtain ⟨xs,rfl,h3⟩:=hasW_list h1
 obtain ⟨ns,rfl⟩:=items_int h3
 have hlen:ns.length<=n:=by
  unfold OpenLaw.pre at hc
  have h4:(WTm.not (.lt (.lit (.int (n:Int))) (.len (.arg 0)))).holds [] { args:=[.list (ns.map .int)] } = true:=by
   have h4:=(holds_andW hc).1
   rw [hn] at h4
   exact h4
  have h5:=condW_of h4 (w_not (w_lt w_lit (w_len_list (w_arg rfl))))
  rw [List.length_map] at h5
  refine Nat.le_of_not_lt fun q=>?_
  have q':(n:Int) < ((ns.length:Nat):Int):=by (first|lia|omega)
  first
   | (rw [decide_eq_true q'] at h5; exact absurd h5 (by decide))
   | (simp at h5; (first|lia|omega))
 cases hwl with
 | cons w1 w2=>
  cases w2
  cases w1 with
  | list ho hall=>exact ⟨_,_,ns,rfl,rfl,ho,ints_of_wellAll ns _ hall,hlen⟩
theorem post_true (l:OpenLaw) (args:List WData):l.row.toRowW.claim.post args (.bool true) args=true:=
 postW_of (r:=l.row.toRowW) (X:=(true == true))
  (show WShape.has [] (.bool true) .bool=true by first | rfl | decide | simp [WShape.has,WShape.arms,WShape.armsAll])
  (show (WTm.eq .res (.lit (.bool true))).value [] { args:=args,res:=some (.bool true),after:=args } = some (.bool (true == true)) from w_eq_bool (w_res rfl) w_lit) rfl
theorem attach_call {l:OpenLaw} {n:Nat} {q:Program} {loose:List Str} {XP:(Str->Option Value)->Heap->Prop} {YP:World->Heap->Prop} {d:DefRec}
  (hn:l.most=some n) (hdf:d.params.defaults=[])
  (call:∀ (w:World) (s₀ s₁:Shared) (mg mb:Str->Option Value) (fa:Addr) (o:Obj) (pm cd doc:Value) (a:Addr) (vs:List Value) (ns:List Int),
   Ground q loose [] XP w s₀ mg mb s₁.heap->YP w s₁.heap ->
   s₁.heap.get? fa=some o->o.data=.func (docDef d.name d.params d.body d.scope pm cd doc)->s₁.heap.CodeRec cd d.name->mg d.name=some (.ref fa) ->
   s₁.heap.get? a=some { cls:=.type "list",data:=.seq vs.toArray }->IntsAre vs ns->ns.length<=n->s₁.gens=#[] ->
   codeAny (model l.prog w) callerA (.call (.ref fa) ⟨[.ref a],[]⟩) (fun r s'=>r=.ok (.ret (.bool true))/\OldK s₁.heap s'.heap/\s'.os=s₁.os/\AllBare s'.gens) s₁) :
  WalkO q loose XP YP l.row.toRowW d [] (fun f vs=>PySem.call f vs):=by
 intro w s₀ s₁ mg mb G Y fa o pm cd doc dV kV ho hd hcd hD hmg hg args vals as hpre hlay hrd hwl hlo
 obtain rfl:dV=.none:=Dflts.none hD hdf
 obtain rfl:kV=.none:=Dflts.noKw hD
 obtain ⟨a,vs,ns,rfl,rfl,hobj,hints,hlen⟩:=script_of hn hpre hwl
 refine enter_call (codeAny_mono (call w s₀ s₁ mg mb fa o pm cd doc a vs ns G Y ho (fd_plain hd) hcd hmg hobj hints hlen hg) fun r s' hq=>?_)
 obtain ⟨rfl,h2,h3,h4⟩:=hq
 exact ⟨.inl ⟨.bool true,.bool true,[],rfl,fun _=>rfl,.bool true,post_true l _,fun _=>⟨List.Pairwise.nil,fun _ hm=>(nomatch hm)⟩⟩,h2,h3,h4⟩
section
variable {prog:Program} {w:World} {A:Around} {E:Value->Shared->Prop} {s:Shared} {K:Frag}
end
end Att
namespace L2
open PySem PySem.Spec PyProof.Rows
theorem vals_ints:∀ {vs:List Value} {ns:List Int},IntsAre vs ns->Vals (ns.map V.int) vs
 | _,_,.nil=>.nil
 | _,_,.cons n t h=>.cons ⟨t,rfl⟩ (vals_ints h)
def Only (H:Hp):Prop:=∀ b,H b=none\/∃ o xs,H b=some (.frz o (.lst xs))
theorem law_call {P:Program} {w:World} {K:PySem.W.Frag} {mg mb:Str->Option Value} {CX:CXT} {k:Nat} {fa a:Addr} {fd:FuncData} {x:Str} {sp:Sp} {s₁:Shared} {vs:List Value} {ns:List Int}
  (KX:K.In s₁.heap) (hns:s₁.heap.Ns mainGlobals mg) (hb:s₁.heap.Ns builtinsNs mb) (hbb:∀ x:Str,x ≠ "__name__"->mb x=bootBuiltins x) (hlim:s₁.heap.NoLimit) (hg:s₁.gens=#[])
  (ha:s₁.heap.get? a=some { cls:=.type "list",data:=.seq vs.toArray }) (hi:IntsAre vs ns) (hl:ns.length<=sizeLine) (hr:Room k callerA)
  (F:∀ base:Heap,K.In base->base.Ns mainGlobals mg->FnOk P w K mg base CX k fa fd [x] sp) (hbind:∀ (s:Shared) (u:Value),BindsTo s fd ⟨[u],[]⟩ [(x,u)])
  (hsp:∀ H:Hp,Only H->SqL K H a (ns.map V.int)->sp [.ref a] H (fun v _=>v=.bl true) fun _ _ _=>False)
  (hCX:∀ H e s',CX [] H s₁ (fun _ _ _=>False) e s'->False) :
  codeAny (model P w) callerA (.call (.ref fa) ⟨[.ref a],[]⟩) (fun r s'=>r=.ok (.ret (.bool true))/\OldK s₁.heap s'.heap/\s'.os=s₁.os/\AllBare s'.gens) s₁:=by
 have rv:=vals_ints hi
 have lenV:=hi.length
 have core:∀ H:Hp,Only H->SqL K H a (ns.map V.int)->HOk P w H s₁.heap->(∀ b,H b ≠ none->b=a)->(H a ≠ none->K.lookup a=none) ->
   codeAny (model P w) callerA (.call (.ref fa) ⟨[.ref a],[]⟩) (fun r s'=>r=.ok (.ret (.bool true))/\OldK s₁.heap s'.heap/\s'.os=s₁.os/\AllBare s'.gens) s₁:=by
  intro H hO hS hok hA hK
  have base_of:∀ {b:Addr} {o:Obj},s₁.heap.get? b=some o->H b=none->(hidT s₁.heap H).get? b=some o:=fun e n=>hidT_get e n
  have noA:∀ {b:Addr} {o:Obj} {es:Array DictEntry} {ep:Nat},s₁.heap.get? b=some o->o.data=.dict es ep->H b=none:=fun {b o es ep} e d=>by
   cases q:H b with
   | none=>rfl
   | some u=>
    have e':b=a:=hA b (by rw [q]; simp)
    subst e'
    rw [ha] at e; cases e
    have d':Data.seq vs.toArray _=Data.dict es ep:=d
    cases d'
  have nsK:∀ {b:Addr} {m:Str->Option Value},s₁.heap.Ns b m->(hidT s₁.heap H).Ns b m:=fun {b m} ⟨o,es,ep,e,d,r⟩=>⟨o,es,ep,base_of e (noA e d),d,r⟩
  have hKb:K.In (hidT s₁.heap H):=fun b o e=>base_of (KX b o e) (by
   cases q:H b with
   | none=>rfl
   | some u=>
    have e':b=a:=hA b (by rw [q]; simp)
    subst e'
    rw [hK (by rw [q]; simp)] at e; cases e)
  have hM:Mod K mg (hidT s₁.heap H):=⟨hKb,nsK hns,⟨mb,nsK hb,hbb⟩,let ⟨mc,h1,h2⟩:=hlim; ⟨mc,nsK h1,h2⟩⟩
  have e0:Env0 P w K mg (hidT s₁.heap H) callerA [] s₁ H:=⟨rfl,hM,fun b o e=>of_hidT e,Nat.le_of_eq (hidT_size _ _),trivial,fun b hb=>absurd (show b ∈ ([]:List Addr) from hb) (by simp),hok,.of_eq hg⟩
  refine codeAny_mono ((F _ hKb (nsK hns)).run callerA [] s₁ H ⟨[.ref a],[]⟩ [.ref a] [.ref a] _ _ hr e0 (hbind s₁ (.ref a)) (.cons rfl .nil) (hsp H hO hS)) fun r s' h=>?_
  cases r with
  | error e=>exact (hCX H e s' h).elim
  | ok fl=>
   cases fl with
   | next=>exact False.elim h
   | brk=>exact False.elim h
   | cont=>exact False.elim h
   | ret u=>
    obtain ⟨v,H',os,bare,un,hok',r',q⟩:=h
    have q':v=.bl true:=q
    subst q'
    obtain rfl:u=Value.bool true:=r'
    refine ⟨rfl,OldK.of_keep fun b o e=>?_,os,bare⟩
    cases q:H b with
    | none=>exact un.keep b o e q (by intro z; exact absurd (show b ∈ ([]:List Addr) from z) (by simp)) (by simp)
    | some u=>
     rcases hO b with z | ⟨ob,xs,z⟩
     ·rw [q] at z; cases z
     ·have z2:=un.frzs b ob _ z
      obtain ⟨e1,_⟩:=hok b _ z
      obtain ⟨e2,_⟩:=hok' b _ z2
      rw [e] at e1; cases e1
      exact e2
 cases hk:K.lookup a with
 | some o=>
  have e:=KX a o hk
  rw [ha] at e
  cases e
  refine core (fun _=>none) (fun _=>.inl rfl) (.inr ⟨_,vs.toArray,_,hk,rfl,rfl,rfl,by rw [List.size_toArray,lenV]; exact hl,by simpa using rv⟩) (fun b u z=>by have z':(none:Option HO)=some u:=z; cases z') (fun b z=>absurd rfl z) fun z=>absurd rfl z
 | none=>
  refine core (fun b=>if b=a then some (.frz { cls:=.type "list",data:=.seq vs.toArray } (.lst (ns.map V.int))) else none) (fun b=>?_) (.inl (.inr ⟨{ cls:=.type "list",data:=.seq vs.toArray },if_pos rfl⟩)) (fun b u z=>?_) (fun b z=>?_) fun _=>hk
  ·by_cases hb:b=a
   ·exact .inr ⟨_,_,if_pos hb⟩
   ·exact .inl (if_neg hb)
  ·by_cases hb:b=a
   ·have z':=(if_pos hb).symm.trans z
    cases z'
    subst hb
    exact ⟨ha,by rw [List.length_map]; exact hl,vs,_,rv,ha⟩
   ·have z':=(if_neg hb).symm.trans z
    cases z'
  ·by_cases hb:b=a
   ·exact hb
   ·exact absurd (if_neg hb) z
end L2
namespace L2
open PySem PySem.Spec PyProof.Rows
theorem walk_of {l:PySem.W.OpenLaw} {n k:Nat} {q:Program} {loose:List Str} {XP:(Str->Option Value)->Heap->Prop} {YP:World->Heap->Prop} {d:DefRec} {K:Params->PySem.W.Frag} {CX:World->CXT} {sp:World->Sp} {x:Str}
  (hn:l.most=some n) (hn2:n<=sizeLine) (hdf:d.params.defaults=[]) (hr:Room k callerA)
  (hY:∀ (w:World) (h:Heap),YP w h->(K w.params).In h)
  (F:∀ (w:World) (mg:Str->Option Value) (fa:Addr) (h:Heap),(K w.params).In h->h.Ns mainGlobals mg->mg d.name=some (.ref fa) ->
   ∃ fd:FuncData,(∀ (s:Shared) (u:Value),BindsTo s fd ⟨[u],[]⟩ [(x,u)]) /\
    ∀ base:Heap,(K w.params).In base->base.Ns mainGlobals mg->FnOk l.prog w (K w.params) mg base (CX w) k fa fd [x] (sp w))
  (hsp:∀ (w:World) (H:Hp) (a:Addr) (ns:List Int),ns.length<=n->Only H->SqL (K w.params) H a (ns.map V.int)->sp w [.ref a] H (fun v _=>v=.bl true) fun _ _ _=>False)
  (hCX:∀ (w:World) (H:Hp) (s:Shared) (e:Value) (s':Shared),CX w [] H s (fun _ _ _=>False) e s'->False) :
  PySem.W.WalkO q loose XP YP l.row.toRowW d [] (fun f vs=>PySem.call f vs):=by
 refine Att.attach_call hn hdf fun w s₀ s₁ mg mb fa o pm cd doc a vs ns G Y ho hd hcd hmg hobj hints hlen hg=>?_
 have KX:=hY w _ Y
 obtain ⟨fd,hb,hF⟩:=F w mg fa _ KX G.T.g hmg
 exact law_call KX G.T.g G.T.b G.T.builtins G.T.nolimit hg hobj hints (Nat.le_trans hlen hn2) hr hF hb (fun H hO hS=>hsp w H a ns hlen hO hS) fun H e s'=>hCX w H s₁ e s'
end L2
namespace L2
open PySem PySem.Spec PyProof.Rows
def defArgs (s:Stmt):Arguments:=match s with
 | .FunctionDef _ a _ _ _ _ _ _ _ _=>a
 | _=>{ posonlyargs:=[],args:=[],vararg:=none,kwonlyargs:=[],kw_defaults:=[],kwarg:=none,defaults:=[] }
def defBody (s:Stmt):List Stmt:=match s with
 | .FunctionDef _ _ b _ _ _ _ _ _ _=>b
 | _=>[]
def defScope (s:Stmt):Scope:=match s with
 | .FunctionDef _ _ _ _ _ _ sc _ _ _=>sc
 | _=>{ kind:=.function,names:=[],isGenerator:=false,isCoroutine:=false }
abbrev CX0:CXT:=fun _ _ _ _ _ _=>False
abbrev E0:XK:=fun _ _ _=>False
theorem pass0 {X:Cx}:Passes CX0 X E0:=fun _ _ _ _ _ _ _ h=>h.elim
structure Fun (K:PySem.W.Frag) (x qual:Str) (st:Stmt) (f:Addr) (fd:FuncData):Prop where
 ex:∃ (oc:Value) (od:Option Addr) (kV doc pm:Value) (an:Option Addr) (cdv ct:Value) (osl:Array (Option Value)),
  fd=PySem.W.fnOf x qual (defArgs st) (defBody st) (defScope st) .none kV doc pm an cdv ct/\K.lookup f=some ⟨oc,od,.func fd,osl⟩/\PySem.W.codeIn K cdv qual=true
 kp:PySem.W.keepIn K (.ref f)=true
section
variable {P:Program} {w:World} {K:PySem.W.Frag} {mg:Str->Option Value} {base:Heap}
theorem Fun.ok {x qual:Str} {st:Stmt} {f:Addr} {fd:FuncData} {N ps:List Str} {k:Nat} {sp:Sp} (F:Fun K x qual st f fd) (S:FnScope N ps (defScope st)) (len:∀ vs H Q E,sp vs H Q E->vs.length=ps.length)
  (hbody:∀ (cdv:Value) (A:Around) (outer:List Env) (s:Shared) (H:Hp) (vs:List V) (Q:VK) (E:XK),Room k (A.deeper (envOfC qual (defScope st) s.heap.objs.size f cdv))->sp vs H Q E ->
   ∃ t,PSs (cxOf CX0 P w K mg base N qual (defScope st) f cdv A outer s H E).nox (defBody st) t/\t { nx:=fun _ H'=>Q .non H',rt:=Q } (start N vs) H):FnOk P w K mg base CX0 (k + 1) f fd ps sp:=by
 obtain ⟨oc,od,kV,doc,pm,an,cdv,ct,osl,rfl,lk,hcd⟩:=F.ex
 refine fn_of lk hcd S len fun A outer s H vs Q E hr hsp=>?_
 obtain ⟨t,h,q⟩:=hbody cdv A outer s H vs Q E hr hsp
 exact ⟨t,h.nox,q⟩
theorem Fun.binds {x qual:Str} {st:Stmt} {f:Addr} {fd:FuncData} {ps:List Str} (F:Fun K x qual st f fd)
  (h:∀ (kV doc pm:Value) (an:Option Addr) (cdv ct:Value) (us:List Value),us.length=ps.length->bindArgs (PySem.W.fnOf x qual (defArgs st) (defBody st) (defScope st) .none kV doc pm an cdv ct) ⟨us,[]⟩=pure (ps.zip us)):Binds K fd ps []:=by
 obtain ⟨oc,od,kV,doc,pm,an,cdv,ct,osl,rfl,lk,hcd⟩:=F.ex
 exact .all (h kV doc pm an cdv ct)
theorem fun_mk {x qual:Str} {st:Stmt} {f:Addr} {oc:Value} {od an:Option Addr} {osl:Array (Option Value)} {kV doc pm cdv ct:Value} (l:K.lookup f=some ⟨oc,od,.func (PySem.W.fnOf x qual (defArgs st) (defBody st) (defScope st) .none kV doc pm an cdv ct),osl⟩)
  (c:PySem.W.codeIn K cdv qual=true) (k:PySem.W.keepIn K (.ref f)=true):Fun K x qual st f (PySem.W.fnOf x qual (defArgs st) (defBody st) (defScope st) .none kV doc pm an cdv ct):=⟨⟨oc,od,kV,doc,pm,an,cdv,ct,osl,rfl,l,c⟩,k⟩
end
theorem hu_of {A:Around} {k:Nat} (hr:Room k A):A.units + 1 < cLine:=Nat.lt_of_le_of_lt (Nat.add_le_add_left (by decide:1<=64) _) hr.units
section
variable {X:Cx}
theorem pv (i:Nat) {x:Str} {pos:Pos} (hN:X.N[i]? = some x:=by rfl) (hv:Vis X.env.scope x:=by first | exact Or.inl rfl | exact Or.inr (Or.inl rfl) | exact Or.inr (Or.inr rfl)) (hd:(x == ("__debug__":Str))=false:=by decide)
  (hcd:(x == ("__classdict__":Str))=false:=by decide):PE X (.Name x pos) (tVar i):=pe_var hN hv hd hcd
end
theorem iteF {A B:Prop} (h:B):if false=true then A else B:=by
 rw [if_neg Bool.false_ne_true]
 exact h
theorem iteT {A B:Prop} (h:A):if true=true then A else B:=by
 rw [if_pos rfl]
 exact h
theorem ite2 {c A B:Prop} [Decidable c] (h1:c->A) (h2:¬ c->B):if c then A else B:=by
 by_cases h:c
 ·rw [if_pos h]
  exact h1 h
 ·rw [if_neg h]
  exact h2 h
def Same (H H':Hp):Prop:=∀ b o,H b=some o->H' b=some o
theorem Same.refl (H:Hp):Same H H:=fun _ _ h=>h
theorem Same.trans {H H1 H2:Hp} (a:Same H H1) (b:Same H1 H2):Same H H2:=fun c o h=>b c o (a c o h)
section
variable {κ:Type} [DecidableEq κ]
theorem nd_snoc:∀ {l:List κ} {k:κ},l.Nodup->¬ k ∈ l->(l ++ [k]).Nodup
 | [],k,_,_=>by simp
 | a :: r,k,h,hk=>by
  obtain ⟨h1,h2⟩:=List.nodup_cons.mp h
  show (a :: (r ++ [k])).Nodup
  refine List.nodup_cons.mpr ⟨fun m=>?_,nd_snoc h2 fun m=>hk (List.mem_cons.mpr (Or.inr m))⟩
  rcases List.mem_append.mp m with q | q
  ·exact h1 q
  ·exact hk (List.mem_cons.mpr (Or.inl (List.mem_singleton.mp q).symm))
end
end L2
namespace L2
open PySem PySem.Spec PyProof.Rows
abbrev compCx (X:Cx) (scope:Scope) (cl:List (Str × Addr)) (N:List Str) (s2:Shared) (H:Hp) (C:Addr) (fp:List Addr):Cx where
 prog:=X.prog
 w:=X.w
 K:=X.K
 mg:=X.mg
 base:=X.base
 A:=X.A
 N:=N
 s₀:=s2
 H₀:=H
 env:=compEnvC scope cl C X.env
 outer:=X.stack
 stack:=X.stack
 ex:=fp
 fn:=fun _=>false
 calm:=X.calm
 pn:=[]
 xe:=fun _ _=>False
structure CompOk (X:Cx) (scope:Scope) (cl:List (Str × Addr)):Prop where
 clos:closureFor scope X.env=pure cl
 cell:∀ y ∈ scope.names,y.2 ≠ .cell
 kind:scope.kind=.function
 names:∀ y ∈ scope.names,y.2=.local->scope.names.lookup y.1=some .local
 sub:∀ x c,cl.lookup x=some c->X.env.cells.lookup x=some c
 has:∀ x,((relabel scope X.env).names.lookup x=some .cell\/(relabel scope X.env).names.lookup x=some .free)->∃ c,cl.lookup x=some c
def Carry (X:Cx) (cl:List (Str × Addr)) (scope:Scope) (N:List Str) (σ σ':St):Prop:=
 σ'.length=N.length/\∀ (i:Nat) (x:Str) (v:V),N[i]? = some x->σ'[i]? = some (some v) ->
  (∃ j:Nat,X.N[j]? = some x/\σ[j]? = some (some v))/\(X.env.kindOf x=some .cell\/X.env.kindOf x=some .free) /\
   ((relabel scope X.env).names.lookup x=some .cell\/(relabel scope X.env).names.lookup x=some .free)
theorem Carry.none (X:Cx) (cl:List (Str × Addr)) (scope:Scope) (N:List Str) (σ:St):Carry X cl scope N σ (N.map fun _=>Option.none):=by
 refine ⟨by simp,fun i x v h1 h2=>?_⟩
 rw [List.getElem?_map,h1] at h2
 cases h2
section
variable {X:Cx} {pins:List (Addr × Obj)} {σ σ':St} {H H':Hp} {s2 s':Shared} {scope:Scope} {cl:List (Str × Addr)} {N:List Str} {fp:List Addr} {C D:Addr} {h₁ h':Heap} {t':Nat}
theorem comp_start (I:Inv X pins σ H s2) (hf:∀ b ∈ fp,FpOk X pins H b) (hfo:∀ b ∈ fp,∃ o,s2.heap.get? b=some o) (co:CompOk X scope cl) (hσ:Carry X cl scope N σ σ')
  (k:∀ b o,s2.heap.get? b=some o->h₁.get? b=some o) (hD:s2.heap.objs.size<=D) (hC:s2.heap.objs.size<=C) (hDC:C ≠ D)
  (new:h₁.get? D=some { cls:=.type "list",data:=.seq ([]:List Value).toArray 0 }\/∃ n,h₁.get? D=some { cls:=.type "list",data:=.seq ([]:List Value).toArray n }) {m:Str->Option Value} (hn:h₁.Ns C m) :
  Inv (compCx X scope cl N s2 H C fp) [] σ' (upd H D (.lst [])) { s2 with heap:=h₁,toks:=t' }:=by
 have fD:H D=none:=I.hok.fresh hD
 have fC:H C=none:=I.hok.fresh hC
 have newO:ObjOk X.prog X.w (upd H D (.lst [])) h₁ D (.lst []):=by
  refine ⟨Nat.zero_le _,[],?_⟩
  rcases new with e | ⟨n,e⟩
  ·exact ⟨0,.nil,e⟩
  ·exact ⟨n,.nil,e⟩
 have lts:∀ b ∈ fp,b < s2.heap.objs.size:=fun b hb=>let ⟨_,e⟩:=hfo b hb; Heap.lt_size e
 have cells_lt:∀ x c,cl.lookup x=some c->c < s2.heap.objs.size:=fun x c e=>by
  obtain ⟨v,q⟩:=I.cell x c (co.sub x c e)
  exact q.lt
 have ok:Cx.Ok (compCx X scope cl N s2 H C fp):=by
  refine ⟨I.ok.mod,?_,I.ok.glob,I.ok.blt,hC,?_,?_,?_,I.ok.hd,I.ok.frames,.inl rfl,?_,I.bs,Nat.le_trans I.ok.bsz I.sz,?_,?_,I.stack,I.stkFree⟩
  ·exact co.kind
  ·exact fun x y c e1 e2=>I.ok.inj x y c (co.sub x c e1) (co.sub y c e2)
  ·exact fun x h=>co.has x h
  ·exact fun x c h _=>by cases h
  ·intro b hb
   refine ⟨fun e=>?_,fun x c e=>(hf b hb).2.2.2.2.1 x c (co.sub x c e)⟩
   have z:=lts b hb
   exact absurd (Nat.lt_of_lt_of_le z hC) (by rw [show b=C from e]; exact Nat.lt_irrefl _)
  ·intro b o e hb
   have hb':b ∈ fp:=hb
   rcases (hf b hb').2.2.2.1 with z | z
   ·exact I.ok.noex b o e z
   ·exact absurd (Nat.lt_of_lt_of_le (Heap.lt_size e) (Nat.le_trans I.ok.bsz z)) (Nat.lt_irrefl _)
  ·intro b hb hz
   have hb':b ∈ fp:=hb
   obtain ⟨_,f1,f2,_⟩:=hf b hb'
   rcases List.mem_cons.mp (I.stkSub b hz) with e | e
   ·exact f1 e
   ·exact f2 e
 refine ⟨ok,rfl,I.bare,Un.laid k hD fD,?_,?_,?_,?_,?_,I.hok.laid k hD newO,hσ.1⟩
 ·refine ⟨m,hn,fun i x v e1 e2 _=>?_⟩
  obtain ⟨⟨j,j1,j2⟩,kk,kr⟩:=hσ.2 i x v e1 e2
  obtain ⟨mo,_,hl⟩:=I.loc
  obtain ⟨u,r,l⟩:=hl j x v j1 j2 (by
   rcases kk with z | z
   ·exact .inr (.inl z)
   ·exact .inr (.inr z))
  refine ⟨u,r,.inr ⟨kr,?_⟩⟩
  obtain ⟨c,hc⟩:=co.has x kr
  rcases l with ⟨z,_⟩ | ⟨_,c',hc',hcell⟩
  ·rcases kk with q | q
   ·rw [z] at q; cases q
   ·rw [z] at q; cases q
  ·have e3:=co.sub x c hc
   rw [hc'] at e3
   have e4:c'=c:=Option.some.inj e3
   subst e4
   obtain ⟨o,ho,hd⟩:=hcell
   exact ⟨c',hc,o,k _ o ho,hd⟩
 ·intro x c e
  obtain ⟨v,o,ho,hd⟩:=I.cell x c (co.sub x c e)
  exact ⟨v,o,k _ o ho,hd⟩
 ·show upd H D (.lst []) C=none
  rw [upd_ne hDC]
  exact fC
 ·intro x c e
  rw [upd_ne (Nat.ne_of_lt (Nat.lt_of_lt_of_le (cells_lt x c e) hD))]
  exact I.freeC x c (co.sub x c e)
 ·intro p hp
  cases hp
theorem comp_end {pl:List (Addr × Obj)} (I:Inv X pins σ H s2) (hf:∀ b ∈ fp,FpOk X pins H b) (hC:s2.heap.objs.size<=C) (I2:Inv (compCx X scope cl N s2 H C fp) pl σ' H' s')
  (hs:Heap.SameBut C s'.heap h'):Inv X pins σ H' { s' with heap:=h' }:=by
 have nC:∀ b o,s2.heap.get? b=some o->b ≠ C:=fun b o e=>Nat.ne_of_lt (Nat.lt_of_lt_of_le (Heap.lt_size e) hC)
 have u:=I2.base
 refine I.call' (s':={ s' with heap:=h' }) (ch:=fp) I2.os ⟨?_,?_,u.free,?_,u.tups,u.frzs,u.tbls⟩ ?_ I2.bare fun b hb=>?_
 ·exact fun b o e n h1 h2=>(hs.2 b (nC b o e)).trans (u.keep b o e n h1 h2)
 ·intro b o e n h1 h2
  obtain ⟨sl,q⟩:=u.slot b o e n h1 h2
  exact ⟨sl,(hs.2 b (nC b o e)).trans q⟩
 ·intro b o e h2
  obtain ⟨o',q⟩:=u.there b o e h2
  exact ⟨o',(hs.2 b (nC b o e)).trans q⟩
 ·intro b ob e
  have hfree:H' C=none:=I2.free
  refine (I2.hok b ob e).stay (fun c w' hc q=>(hs.2 c ?_).trans q) (fun _ q=>q) fun _ _ q=>q
  rintro rfl
  rcases hc with rfl | hc
  ·rw [hfree] at e; cases e
  ·rw [hfree] at hc; cases hc
 ·obtain ⟨_,f1,_,f3,f4,f5⟩:=hf b hb
  exact ⟨f3,f1,f4,f5⟩
end
section
variable {prog:Program} {w:World} {A:Around} {R:Result->Shared->Prop} {s:Shared}
theorem codeAny_compLoop_any {elt target iter:Expr} {ifs:List Expr} {scope:Scope} {pos:Pos} {it acc:Value} {env:Env} (I:Nat->Shared->Prop)
  (turn:∀ n s,I n s->wpAny (model prog w) A (pyNext it) (fun r s₁=>match r with
   | none=>R (.ok .next) s₁
   | some v=>wpAny (model prog w) A (letOwnedTupleGo target it v) (fun _ s₁'=>wpAny (model prog w) A (assign target env v) (fun _ s₂=>
     wpAny (model prog w) A (forIn ifs true fun c r=>if r=true then do let ok <- isTrue c env (eval c env); pure (ForInStep.yield ok) else pure (ForInStep.yield r)) (fun ok s₃=>
      if ok=true then wpAny (model prog w) A (eval elt env) (fun x s₄=>
       wpAny (model prog w) A (call (.builtin "list.append") [acc,x]) (fun _ s₅=>∃ m,m < n/\I m s₅) (notedBy (model prog w) A env fun e s'=>R (.error e) s') s₄) (notedBy (model prog w) A env fun e s'=>R (.error e) s') s₃
      else ∃ m,m < n/\I m s₃) (notedBy (model prog w) A env fun e s'=>R (.error e) s') s₂) (notedBy (model prog w) A env fun e s'=>R (.error e) s') s₁') (notedBy (model prog w) A env fun e s'=>R (.error e) s') s₁) (notedBy (model prog w) A env fun e s'=>R (.error e) s') s)
  (n:Nat) (h:I n s) :
  codeAny (model prog w) A (.compLoop (.ListComp elt [⟨target,iter,ifs,0⟩] scope pos) 0 it acc env) R s:=by
 refine codeAny_loop rfl I (fun n s hI=>?_) n h
 show wpAny _ A ((compTurn (.ListComp elt [⟨target,iter,ifs,0⟩] scope pos) 0 it acc env).onRaise (fun x=>do noteFrame x env; theTreesLotGoes x)) _ _ s
 refine wpAny_noted ?_
 rw [compTurn_list]
 refine wpAny_bind (wpAny_standAt (wpAny_bind (wpAny_mono (turn n s hI) (fun r s₁ h₁=>?_) fun _ _ h'=>h')))
 cases r with
 | none=>exact wpAny_pure h₁
 | some v=>
  refine wpAny_bind (wpAny_mono h₁ (fun _ s₁' h₁'=>?_) fun _ _ h'=>h')
  refine wpAny_bind (wpAny_mono h₁' (fun _ s₂ h₂=>wpAny_bind (wpAny_mono h₂ (fun ok s₃ h₃=>?_) fun _ _ h'=>h')) fun _ _ h'=>h')
  cases ok with
  | false=>exact wpAny_pure ⟨rfl,h₃⟩
  | true=>
   exact wpAny_bind (wpAny_bind (wpAny_mono h₃ (fun x s₄ h₄=>wpAny_bind (wpAny_mono h₄ (fun _ s₅ h₅=>wpAny_pure (wpAny_pure ⟨rfl,h₅⟩)) fun _ _ h'=>h')) fun _ _ h'=>h'))
end
def PTs (X:Cx) (ifs:List Expr) (t:TT):Prop:=
 ∀ (pins:List (Addr × Obj)) (s:Shared) (σ:St) (H:Hp) (Q:Bool->Hp->Prop),Inv X pins σ H s->t σ H Q ->
  wpAny (model X.prog X.w) X.A (forIn ifs true fun c r=>if r=true then do let ok <- isTrue c X.env (eval c X.env); pure (ForInStep.yield ok) else pure (ForInStep.yield r)) (TP X pins σ Q) X.xe s
def tYes:TT:=fun _ H Q=>Q true H
theorem pts_nil {X:Cx}:PTs X [] tYes:=fun _ _ _ H _ I h=>wpAny_tests_nil ⟨H,I,h⟩
theorem pts_one {X:Cx} {c:Expr} {t:TT} (h:PT X c t):PTs X [c] t:=fun pins s σ H Q I q=>wpAny_tests_one (h pins s σ H Q I q)
def tComp (wi:TI) (g:TG) (tt:TT) (te:TE) (σ0:St->St):TE:=fun σ H Q=>wi σ H fun J H1=>∀ D,H1 D=none->∃ W:Nat->Nat->St->Hp->Prop,(∃ m,W 0 m (σ0 σ) (upd H1 D (.lst []))) /\
 ∀ i m σ' H',W i m σ' H'->(J.stop i H'/\Q (.ref D) H')\/(J.go i H'/\∀ x H2,J.yld i H' x H2->g x σ' H2 fun σ2 H3=>tt σ2 H3 fun b H4=>
  if b=true then te σ2 H4 (fun v H5=>∃ acc,H5 D=some (.lst acc)/\acc.length < sizeLine/\∃ m',m' < m/\W (i + 1) m' σ2 (upd H5 D (.lst (acc ++ [v])))) else ∃ m',m' < m/\W (i + 1) m' σ2 H4)
theorem pe_comp {X:Cx} {tg iter elt:Expr} {ifs:List Expr} {scope:Scope} {cl:List (Str × Addr)} {N:List Str} {pos:Pos} {wi:TI} {g:TG} {tt:TT} {te:TE} {σ0:St->St} (hc:X.calm=true) (co:CompOk X scope cl)
  (hσ:∀ σ,σ.length=X.N.length->Carry X cl scope N σ (σ0 σ)) (hi:PI X tg iter wi)
  (hb:∀ s2 H C fp,PG (compCx X scope cl N s2 H C fp) tg g/\PTs (compCx X scope cl N s2 H C fp) ifs tt/\PE (compCx X scope cl N s2 H C fp) elt te)
  (hs:∀ x,foldedSetIterable iter X.env x=pure x:=by intro _; rfl):PE X (.ListComp elt [⟨tg,iter,ifs,0⟩] scope pos) (tComp wi g tt te σ0):=by
 intro pins s σ H Q I h
 rw [eval_ListComp]
 refine wpAny_comprehension_free (use:=none) rfl hs co.clos co.kind co.names (wpAny_mono (hi pins s σ H _ I h) (fun xv s1 h1=>wpAny_mono h1 (fun itv s2 h2=>?_) fun _ _ e=>e) fun _ _ e=>e)
 obtain ⟨it,fp,tn,J,H2,rfl,I2,T,st2,f2,hW⟩:=h2
 refine wpAny_newObj_type (wpAny_newFunctionEnv co.cell (by intro y hy; cases hy) (fun h₁ hns₁ hsb₁=>?_) co.kind)
 dsimp only at hns₁ hsb₁ ⊢
 generalize hH2:s2.heap.push { cls:=.type "list",dict:=none,data:=.seq ([]:List Value).toArray } = HH at hns₁ hsb₁ ⊢
 have hCsz:HH.objs.size=s2.heap.objs.size + 1:=by rw [<-hH2,Heap.size_push]
 have old:∀ b o,s2.heap.get? b=some o->h₁.get? b=some o:=fun b o e=>
  hsb₁.extBut b o (Nat.ne_of_lt (by rw [hCsz]; exact Nat.lt_succ_of_lt (Heap.lt_size e))) (Heap.get?_push_of_some _ (hH2 ▸ Heap.get?_push_of_some _ e))
 have newD:∃ n,h₁.get? s2.heap.objs.size=some { cls:=.type "list",data:=.seq ([]:List Value).toArray n }:=
  ⟨_,hsb₁.extBut _ _ (Nat.ne_of_lt (by rw [hCsz]; exact Nat.lt_succ_self _)) (Heap.get?_push_of_some _ (hH2 ▸ Heap.get?_push_size _ rfl))⟩
 obtain ⟨W,⟨m0,w0⟩,turn⟩:=hW s2.heap.objs.size I2.fresh
 have hfo:∀ b ∈ fp,∃ o,s2.heap.get? b=some o:=fun b hb=>let ⟨o,e,_⟩:=T.obj _ _ st2 b hb; ⟨o,e⟩
 have I3:Inv (compCx X scope cl N s2 H2 HH.objs.size fp) [] (σ0 σ) (upd H2 s2.heap.objs.size (.lst [])) { s2 with heap:=h₁,toks:=s2.toks + ([]:List (Str × Value)).length }:=
  comp_start I2 f2 hfo co (hσ σ I.len) old (Nat.le_refl _) (by rw [hCsz]; exact Nat.le_succ _) (Nat.ne_of_gt (by rw [hCsz]; exact Nat.lt_succ_self _)) (.inr newD) hns₁
 have fC:s2.heap.objs.size<=HH.objs.size:=by rw [hCsz]; exact Nat.le_succ _
 obtain ⟨hg,ht,he⟩:=hb s2 H2 HH.objs.size fp
 have loop:∀ s₃:Shared,s₃ = { s2 with heap:=h₁,toks:=s2.toks + ([]:List (Str × Value)).length } ->
   codeAny (model X.prog X.w) X.A (.compLoop (.ListComp elt [⟨tg,iter,ifs,0⟩] scope pos) 0 (.ref it) (.ref s2.heap.objs.size) (compEnvC scope cl HH.objs.size X.env))
    (compPost (model X.prog X.w) X.A X.xe none (EP X pins σ Q) (.ref s2.heap.objs.size) HH.objs.size) s₃:=by
  rintro s₃ rfl
  have stat:∀ {H':Hp} ,(∀ b ∈ fp,H' b=none)->∀ b ∈ fp,FpOk (compCx X scope cl N s2 H2 HH.objs.size fp) [] H' b:=fun hn b hb=>by
   refine ⟨hn b hb,?_,?_,.inl hb,?_,fun p hp=>by cases hp⟩
   ·obtain ⟨o,e⟩:=hfo b hb
    exact Nat.ne_of_lt (show b < HH.objs.size by rw [hCsz]; exact Nat.lt_succ_of_lt (Heap.lt_size e))
   ·intro hz
    obtain ⟨_,q1,q2,_⟩:=f2 b hb
    rcases List.mem_cons.mp (I2.stkSub b hz) with e | e
    ·exact q1 e
    ·exact q2 e
   ·exact fun x c e=>(f2 b hb).2.2.2.2.1 x c (co.sub x c e)
  refine codeAny_compLoop_any (fun n s'=>∃ i σ' H',Inv (compCx X scope cl N s2 H2 HH.objs.size fp) [] σ' H' s'/\tn i s'.heap/\(∀ b ∈ fp,H' b=none)/\W i n σ' H') ?_ m0
   ⟨0,σ0 σ,_,I3,T.keep _ _ _ st2 fun b hb o e=>old b o e,fun b hb=>?_,w0⟩
  ·rintro n s4 ⟨i,σ4,H4,I4,st4,fr4,w4⟩
   rcases turn i n σ4 H4 w4 with ⟨stop,qn⟩ | ⟨go,step⟩
   ·refine wpAny_mono (T.done (compCx X scope cl N s2 H2 HH.objs.size fp) rfl rfl rfl hc i [] s4 σ4 H4 (fun _ _=>False) I4 (stat fr4) st4 stop) (fun r s5 ⟨hr,I5⟩=>?_) fun _ _ z=>z.elim
    subst hr
    obtain ⟨m5,hn5,_⟩:=id I5.loc
    exact ⟨m5,hn5,fun h' hs'=>⟨.ref _,H4,comp_end I2 f2 fC I5 hs',rfl,qn⟩⟩
   ·refine wpAny_mono (T.item (compCx X scope cl N s2 H2 HH.objs.size fp) rfl rfl rfl hc i [] s4 σ4 H4 (fun _ _=>False) I4 (stat fr4) st4 go) (fun r s5 ⟨u,hr,h5⟩=>?_) fun _ _ z=>z.elim
    subst hr
    refine wpAny_mono h5 (fun _ s6 ⟨x,H6,I6,r6,y6,st6,fr6⟩=>?_) fun _ _ z=>z.elim
    have I6':=I6.pinned (stat fr6) (T.obj _ _ st6)
    refine wpAny_mono (hg _ s6 σ4 H6 x u _ I6' r6 (step x H6 y6)) (fun _ s7 ⟨σ7,H7,I7,q7⟩=>?_) fun _ _ z=>z.elim
    refine wpAny_mono (ht _ s7 σ7 H7 _ I7 q7) (fun ok s8 ⟨H8,I8,q8⟩=>?_) fun _ _ z=>z.elim
    have again:∀ {s9:Shared} {σ9:St} {H9:Hp} ,Inv (compCx X scope cl N s2 H2 HH.objs.size fp) ([] ++ pinsAt fp s6.heap) σ9 H9 s9->(∃ m',m' < n/\W (i + 1) m' σ9 H9)->∃ m,m < n/\∃ i σ' H',Inv (compCx X scope cl N s2 H2 HH.objs.size fp) [] σ' H' s9/\tn i s9.heap/\(∀ b ∈ fp,H' b=none)/\W i m σ' H':=fun {s9 σ9 H9} I9 n9=>by
     obtain ⟨m',hm,w9⟩:=n9
     refine ⟨m',hm,i + 1,σ9,H9,I9.unpinned,T.keep _ _ _ st6 fun b hb o e=>(I9.pin (b,o) (List.mem_append_right _ (List.mem_append_right _ (mem_pinsAt hb e)))).1,fun b hb=>?_,w9⟩
     obtain ⟨o,e,d⟩:=T.obj _ _ st6 b hb
     exact (I9.pin (b,o) (List.mem_append_right _ (List.mem_append_right _ (mem_pinsAt hb e)))).2.1
    cases ok with
    | false=>
     rw [if_neg Bool.false_ne_true] at q8 ⊢
     exact again I8 q8
    | true=>
     rw [if_pos rfl] at q8 ⊢
     refine wpAny_mono (he _ s8 σ7 H8 _ I8 q8) (fun y s9 ⟨v,H9,I9,r9,acc,hacc,hsz,q9⟩=>?_) fun _ _ z=>z.elim
     refine wpAny_mono (mt_append (X:=compCx X scope cl N s2 H2 HH.objs.size fp) _ s9 σ7 H9 (.ref s2.heap.objs.size) [v] (.ref s2.heap.objs.size) [y] (fun _ H10=>∃ m',m' < n/\W (i + 1) m' σ7 H10) I9 rfl (.cons r9 .nil) ⟨_,acc,v,rfl,rfl,hacc,hsz,q9⟩) (fun _ s10 ⟨_,H10,I10,_,q10⟩=>?_) fun _ _ z=>z.elim
     exact again I10 q10
  ·have z:=(f2 b hb).1
   obtain ⟨o,e⟩:=hfo b hb
   rw [upd_ne (Nat.ne_of_lt (Heap.lt_size e))]
   exact z
 exact codeAny_compStart_list (loop _ rfl) (T.self _ 0 _ _ _ (T.keep _ _ _ st2 fun b hb o e=>old b o e) (loop _ rfl))
end L2
namespace L2
open PySem PySem.Spec PyProof.Rows
def Its (x:Str):It:=⟨fun i _=>i < x.cps.size,fun i H v H'=>H'=H/\∃ c,x.cps[i]? = some c/\v=.str ⟨#[c]⟩,fun i _=>x.cps.size<=i⟩
theorem turn_strA {P:Program} {w:World} {K:PySem.W.Frag} {tg:Expr} (it:Addr) (x:Str) (t:Tok):Turn P w K tg (Its x) [it] it (fun i h=>h.IsStrIter it "str_ascii_iterator" x t i) where
 mem:=by simp
 obj:=fun i h st b hb=>by
  have e:b=it:=by simpa using hb
  subst e
  obtain ⟨o,e,c,d⟩:=st
  exact ⟨o,e,fun v z=>by rw [d] at z; cases z⟩
 keep:=fun i h h' st k=>let ⟨o,e,r⟩:=st; ⟨o,k it (by simp) o e,r⟩
 item:=by
  intro X hP hw hK hc i pins s σ H E I hf st hg
  subst hP hw hK
  obtain ⟨f0,f1,f2,f3,f4,f5⟩:=hf it (by simp)
  have hg':i < x.cps.size:=hg
  refine wpAny_pyNext_ascii_item st (c:=x.cps[i]) (by simp [hg']) fun h' st' sb=>?_
  have I1:Inv X pins σ H { s with heap:=h',toks:=s.toks + 1 }:=I.turned (fun b o hb e=>(sb.2 b hb).trans e) f0 f1 f3 f4 f5
  obtain ⟨o,e,c,d⟩:=id st'
  exact ⟨_,rfl,go_of (s:={ s with heap:=h',toks:=s.toks + 1 }) e c d (by decide) ⟨.str ⟨#[x.cps[i]]⟩,H,I1,⟨_,rfl⟩,⟨rfl,_,by simp [hg'],rfl⟩,st',fun b hb=>(hf b hb).1⟩⟩
 done:=by
  intro X hP hw hK hc i pins s σ H E I hf st hg
  subst hP hw hK
  obtain ⟨f0,f1,f2,f3,f4,f5⟩:=hf it (by simp)
  have hg':x.cps.size<=i:=hg
  exact wpAny_pyNext_ascii_end (I.ok.hd hc) st (by simp [hg']) fun h' eb=>⟨rfl,I.turned (t':=s.toks) (fun b o hb e=>eb b o hb e) f0 f1 f3 f4 f5⟩
 self:=fun _ _ _ _ _ st h=>wpAny_pyIter_striter_ascii st h
theorem turn_strW {P:Program} {w:World} {K:PySem.W.Frag} {tg:Expr} (it:Addr) (x:Str) (t:Tok):Turn P w K tg (Its x) [it] it (fun i h=>h.IsStrIter it "str_iterator" x t i) where
 mem:=by simp
 obj:=fun i h st b hb=>by
  have e:b=it:=by simpa using hb
  subst e
  obtain ⟨o,e,c,d⟩:=st
  exact ⟨o,e,fun v z=>by rw [d] at z; cases z⟩
 keep:=fun i h h' st k=>let ⟨o,e,r⟩:=st; ⟨o,k it (by simp) o e,r⟩
 item:=by
  intro X hP hw hK hc i pins s σ H E I hf st hg
  subst hP hw hK
  obtain ⟨f0,f1,f2,f3,f4,f5⟩:=hf it (by simp)
  have hg':i < x.cps.size:=hg
  refine wpAny_pyNext_wide_item st (c:=x.cps[i]) (by simp [hg']) fun h' st' sb=>?_
  have I1:Inv X pins σ H { s with heap:=h',toks:=s.toks + 1 }:=I.turned (fun b o hb e=>(sb.2 b hb).trans e) f0 f1 f3 f4 f5
  obtain ⟨o,e,c,d⟩:=id st'
  exact ⟨_,rfl,go_of (s:={ s with heap:=h',toks:=s.toks + 1 }) e c d (by decide) ⟨.str ⟨#[x.cps[i]]⟩,H,I1,⟨_,rfl⟩,⟨rfl,_,by simp [hg'],rfl⟩,st',fun b hb=>(hf b hb).1⟩⟩
 done:=by
  intro X hP hw hK hc i pins s σ H E I hf st hg
  subst hP hw hK
  obtain ⟨f0,f1,f2,f3,f4,f5⟩:=hf it (by simp)
  have hg':x.cps.size<=i:=hg
  exact wpAny_pyNext_wide_end (I.ok.hd hc) st (by simp [hg']) fun h' eb=>⟨rfl,I.turned (t':=s.toks) (fun b o hb e=>eb b o hb e) f0 f1 f3 f4 f5⟩
 self:=fun _ _ _ _ _ st h=>wpAny_pyIter_striter_wide st h
def iStr (tl:TE):TI:=fun σ H R=>tl σ H fun x H1=>∃ z,x=.str z/\R (Its z) H1
theorem pi_str {X:Cx} {tg l:Expr} {tl:TE} (hl:PE X l tl):PI X tg l (iStr tl):=by
 intro pins s σ H R I h
 refine thn (hl pins s σ H _ I h) fun v s1 ⟨x,H1,I1,r1,q1⟩=>?_
 obtain ⟨z,rfl,q⟩:=q1
 obtain ⟨t,rfl⟩:=r1
 have fin:∀ b ∈ [s1.heap.objs.size],FpOk X pins H1 b:=fun b hb=>by
  have e:b=s1.heap.objs.size:=by simpa using hb
  subst e
  exact I1.fpOk (Nat.le_refl _) (I1.hok.fresh (Nat.le_refl _))
 cases ha:z.cps.all (· < 128)
 ·exact wpAny_pyIter_wide ha ⟨s1.heap.objs.size,[s1.heap.objs.size],_,_,H1,rfl,I1.kept (t':=s1.toks) fun b o e=>Heap.get?_push_of_some _ e,turn_strW _ z t,⟨_,Heap.get?_push_size _ rfl,rfl,rfl⟩,fin,q⟩
 ·exact wpAny_pyIter_ascii ha ⟨s1.heap.objs.size,[s1.heap.objs.size],_,_,H1,rfl,I1.kept (t':=s1.toks) fun b o e=>Heap.get?_push_of_some _ e,turn_strA _ z t,⟨_,Heap.get?_push_size _ rfl,rfl,rfl⟩,fin,q⟩
theorem call_all_bl {X:Cx} (hc:X.calm=true):CallR X (.builtin "all") (fun xs H Q=>∃ (p:Addr) (bs:List Bool),xs=[.ref p]/\SqL X.K H p (bs.map V.bl)/\Q (.bl (bs.all id)) H):=by
 intro pins s σ H xs us Q I r h
 obtain ⟨p,bs,rfl,hq,q⟩:=h
 obtain ⟨u,rfl,ru⟩:=vals1 r
 cases ru
 obtain ⟨its,rv,pl,hz⟩:=I.list hq
 have hlen:its.length=bs.length:=by rw [<-rv.length,List.length_map]
 refine call_all_walk (wpAny_pyIter_list pl.isList ?_)
 have hne:p ≠ s.heap.objs.size:=by
  obtain ⟨o,n,e,_⟩:=pl
  exact Nat.ne_of_lt (Heap.lt_size e)
 refine ⟨s.heap.objs.size,_,_,_,_,_,fun i=>bs.getD i true,rfl,Walks.list (A:=X.A.in1) (I.ok.hd hc) s.heap.objs.size p hne its.toArray,⟨⟨_,Heap.get?_push_size _ rfl,rfl,rfl⟩,?_⟩,?_,?_⟩
 ·exact pl.isList.at fun o e=>Heap.get?_push_of_some _ e
 ·intro i v s1 Q1 E1 hv hQ
  have hv':its[i]? = some v:=by simpa using hv
  have hb:∃ b,bs[i]? = some b:=by
   cases e:bs[i]? with
   | some b=>exact ⟨b,rfl⟩
   | none=>
    have:=List.getElem?_eq_none_iff.mp e
    have:=(List.getElem?_eq_some_iff.mp hv').1
    (first|lia|omega)
  obtain ⟨b,hb⟩:=hb
  obtain ⟨u,hu,ru⟩:=rv.get (i:=i) (x:=V.bl b) (by rw [List.getElem?_map,hb]; rfl)
  rw [hv'] at hu
  cases hu
  cases ru
  have e:bs.getD i true=b:=by rw [List.getD_eq_getElem?_getD,hb]; rfl
  have hQ':Q1 (bs.getD i true) s1:=hQ
  rw [e] at hQ'
  exact wpAny_truthy_bool hQ'
 ·intro h' tk hk
  have e:(List.range its.toArray.size).all (fun i=>bs.getD i true)=bs.all id:=by
   rw [List.size_toArray,hlen]
   apply Bool.eq_iff_iff.mpr
   simp only [List.all_eq_true,List.mem_range,id]
   constructor
   ·intro h b hb
    obtain ⟨i,hi,e⟩:=List.getElem_of_mem hb
    have:=h i hi
    rw [List.getD_eq_getElem?_getD,List.getElem?_eq_getElem hi] at this
    simpa [e] using this
   ·intro h i hi
    rw [List.getD_eq_getElem?_getD,List.getElem?_eq_getElem hi]
    exact h _ (List.getElem_mem hi)
  rw [e]
  refine ⟨.bl _,H,?_,rfl,q⟩
  have I1:Inv X pins σ H { s with heap:=s.heap.push { cls:=.type "list_iterator",data:=.fields #[.ref p,.int 0 0] } }:=I.kept (t':=s.toks) fun b o e=>Heap.get?_push_of_some _ e
  have F:=I.fpOk (Nat.le_refl _) (I.hok.fresh (Nat.le_refl _))
  obtain ⟨f0,f1,f2,f3,f4,f5⟩:=F
  exact I1.turned (it:=s.heap.objs.size) (fun b o hb e=>hk b o (by simpa using hb) e) f0 f1 f3 f4 f5
theorem call_isinst {X:Cx}:CallR X (.builtin "isinstance") (fun xs H Q=>∃ x c t b,xs=[x,.ty c]/\TyOf X.K H x t/\PySem.W.kitOne X.K t (.type c)=some b/\Q (.bl b) H):=by
 intro pins s σ H xs us Q I r h
 obtain ⟨x,c,t,b,rfl,ty,e,q⟩:=h
 obtain ⟨u,v,rfl,rx,rc⟩:=vals2 r
 cases rc
 exact isinst_ok I rx ty e fun tk=>⟨.bl b,H,I.tok tk,rfl,q⟩
theorem op_le_str {X:Cx}:OpR X (compareOp .LtE) (fun x y H Q=>∃ i j,x=.str i/\y=.str j/\Q (.bl (!(decide (j.cps.toList < i.cps.toList)))) H):=by
 intro pins s σ H x y v u Q I rx ry h
 obtain ⟨i,j,rfl,rfl,q⟩:=h
 obtain ⟨t,rfl⟩:=rx
 obtain ⟨t',rfl⟩:=ry
 exact PySem.P.le_str ⟨.bl _,H,I,rfl,q⟩
def tSlS (te:TE) (tl th:TO):TE:=fun σ H Q=>te σ H fun x H1=>tl σ H1 fun l H2=>th σ H2 fun u H3=>∃ z,x=.str z/\z.length<=sizeLine/\Q (.str (Txt.slice z l u)) H3
theorem pe_slice_str {X:Cx} {e:Expr} {te:TE} {lo hi:Option Expr} {tl th:TO} {pos p2:Pos} (he:PE X e te) (hl:PO X lo tl) (hu:PO X hi th):PE X (.Subscript e (.Slice lo hi none p2) pos) (tSlS te tl th):=by
 intro pins s σ H Q I h
 refine Subscript_ (thn (he pins s σ H _ I h) fun v s1 ⟨x,H1,I1,r1,q1⟩=>?_)
 refine wpAny_Slice (thn (hl pins s1 σ H1 _ I1 q1) fun vl s2 ⟨l,H2,I2,pl,q2⟩=>thn (hu pins s2 σ H2 _ I2 q2) fun vu s3 ⟨u,H3,I3,pu,q3⟩=>?_)
 rw [evalPart_none]
 refine wpAny_pure ?_
 obtain ⟨z,rfl,hz,q⟩:=q3
 obtain ⟨t,rfl⟩:=r1
 show wpAny (model X.prog X.w) X.A (subscriptTail e (.Slice lo hi none p2) (.str z t) (.ref s3.heap.objs.size)) (EP X pins σ Q) X.xe { s3 with heap:=s3.heap.push { cls:=.type "slice",data:=.fields #[vl,vu,.none] } }
 have kk:KeptH (fun h=>∀ b o,s3.heap.get? b=some o->h.get? b=some o):=fun h ob hh b o e=>Heap.get?_push_of_some _ (hh b o e)
 have fin:ItemOn (model X.prog X.w) X.A X.xe (.str z t) (.ref s3.heap.objs.size) (EP X pins σ Q) { s3 with heap:=s3.heap.push { cls:=.type "slice",data:=.fields #[vl,vu,.none] } }:=by
  cases pl with
  | none=>
   cases pu with
   | none=>exact SBH.sliceItem_nn kk (fun _ _ e=>e) (fun h' t' k kp=>⟨.str _,H3,I3.kept kp,⟨_,rfl⟩,q⟩) hz
   | int j uj=>exact SBH.sliceItem_ns kk (fun _ _ e=>e) (fun h' t' k kp=>⟨.str _,H3,I3.kept kp,⟨_,rfl⟩,q⟩) hz
  | int i ui=>
   cases pu with
   | none=>exact SBH.sliceItem_sn kk (fun _ _ e=>e) (fun h' t' k kp=>⟨.str _,H3,I3.kept kp,⟨_,rfl⟩,q⟩) hz
   | int j uj=>exact SBH.sliceItem_ss kk (fun _ _ e=>e) (fun h' t' k kp=>⟨.str _,H3,I3.kept kp,⟨_,rfl⟩,q⟩) hz
 obtain ⟨T,id,hT,ht,hg⟩:=fin
 exact tail_any (ops:=[.ref s3.heap.objs.size,.str z t]) ht hT hg (by with_unfolding_all rfl)
theorem op_eq_nil {X:Cx} (hu:X.A.units < cLine):OpR X (compareOp .Eq) (fun x y H Q=>∃ a b xs,x=.ref a/\y=.ref b/\SqL X.K H a xs/\SqL X.K H b []/\Q (.bl xs.isEmpty) H):=by
 intro pins s σ H x y v u Q I rx ry h
 obtain ⟨a,b,xs,rfl,rfl,ha,hb,q⟩:=h
 cases rx
 cases ry
 obtain ⟨its,r,p,hz⟩:=I.list ha
 obtain ⟨its2,r2,p2,hz2⟩:=I.list hb
 cases r2
 cases xs with
 | nil=>
  cases r
  refine PySem.SeqAt.eq_listAt (e:=fun _=>true) p.isList p2.isList rfl hu (fun j h1 h2=>absurd h1 (Nat.not_lt_zero _)) ?_
  exact ⟨.bl true,H,I,rfl,q⟩
 | cons x xs=>
  cases r with
  | cons r1 r2=>
   refine PySem.SeqAt.eq_list_lengthsAt p.isList p2.isList (by simp) hu ?_
   exact ⟨.bl false,H,I,rfl,q⟩
end L2
namespace L2
open PySem PySem.Spec PyProof.Rows
theorem lookup_mem {α:Type}:∀ {l:List (Str × α)} {x:Str} {k:α},l.lookup x=some k->(x,k) ∈ l
 | [],_,_,h=>by cases h
 | (n,v) :: r,x,k,h=>by
  rw [List.lookup_cons] at h
  by_cases e:x=n
  ·subst e
   simp at h
   subst h
   exact List.mem_cons_self
  ·have:(x == n)=false:=beq_eq_false_iff_ne.mpr e
   rw [this] at h
   exact List.mem_cons_of_mem _ (lookup_mem h)
theorem CompOk.plain {X:Cx} {scope:Scope} (hfree:∀ x ∈ scope.names,x.2 ≠ .free) (hcell:∀ y ∈ scope.names,y.2 ≠ .cell) (hkind:scope.kind=.function)
  (hnames:∀ y ∈ scope.names,y.2=.local->scope.names.lookup y.1=some .local):CompOk X scope []:=by
 refine ⟨closureFor_none hfree,hcell,hkind,hnames,fun x c h=>(by cases h),fun x h=>?_⟩
 have key:∀ k,(relabel scope X.env).names.lookup x=some k->∃ y ∈ scope.names,y.2=k:=by
  intro k e
  have m:=lookup_mem e
  obtain ⟨⟨n,k'⟩,hm,e'⟩:=List.mem_map.mp m
  have hf:=hfree _ hm
  have:(k' == NameKind.free)=false:=by
   cases k' <;> first | rfl | exact absurd rfl hf
  dsimp only at e'
  rw [this] at e'
  simp at e'
  exact ⟨_,hm,e'.2⟩
 rcases h with h | h
 ·obtain ⟨y,hy,e⟩:=key _ h
  exact absurd e (hcell y hy)
 ·obtain ⟨y,hy,e⟩:=key _ h
  exact absurd e (hfree y hy)
def lowc (c:Nat):Bool:=decide (97<=c) && decide (c<=122)
theorem lt1 (a b:Nat):decide (([a]:List Nat) < [b])=decide (a < b):=by
 apply decide_eq_decide.mpr
 rw [List.cons_lt_cons_iff]
 constructor
 ·rintro (h | ⟨_,h⟩)
  ·exact h
  ·exact absurd h (by simp)
 ·exact fun h=>.inl h
theorem leA (c:Nat):(!(decide ((⟨#[c]⟩:Str).cps.toList < (Str.ofString "a").cps.toList)))=decide (97<=c):=by
 show (!(decide (([c]:List Nat) < [97])))=_
 rw [lt1,<-decide_not]
 exact decide_eq_decide.mpr (by (first|lia|omega))
theorem leZ (c:Nat):(!(decide ((Str.ofString "z").cps.toList < (⟨#[c]⟩:Str).cps.toList)))=decide (c<=122):=by
 show (!(decide (([122]:List Nat) < [c])))=_
 rw [lt1,<-decide_not]
 exact decide_eq_decide.mpr (by (first|lia|omega))
def nameB (t:Str):Bool:=decide (1<=t.length) && decide (t.length<=6) && t.cps.toList.all lowc
def NotStr (K:PySem.W.Frag) (H:Hp) (x:V):Prop:=∃ ty,TyOf K H x ty/\PySem.W.kitOne K ty (.type "str")=some false
def spName (K:PySem.W.Frag):Sp:=fun vs H Q _=>∃ x,vs=[x]/\((∃ t,x=.str t/\t.length<=1000/\∀ H',Same H H'->Q (.bl (nameB t)) H')\/(NotStr K H x/\Q (.bl false) H))
theorem same_upd {H:Hp} {p:Addr} {o:HO} (h:H p=none):Same H (upd H p o):=fun b u e=>by
 rw [upd_ne (ne_of_none e h)]
 exact e
theorem take_succ_map {α β:Type} (f:α->β) (l:List α) (i:Nat) (c:α) (h:l[i]? = some c):(l.take (i + 1)).map f=(l.take i).map f ++ [f c]:=by
 rw [List.take_succ,h,List.map_append]
 rfl
end L2
namespace L2
open PySem PySem.Spec PyProof.Rows
mutual
inductive Dat (H:Hp):V->PyData->Prop
 | non:Dat H .non .none
 | bl (b:Bool):Dat H (.bl b) (.bool b)
 | int (i:Int):Dat H (.int i) (.int i)
 | str (x:Str):Dat H (.str x) (.str x)
 | tup {a:Addr} {vs:List V} {ds:List PyData}:H a=some (.tup vs)->Dats H vs ds->Dat H (.ref a) (.tuple ds)
 | lst {a:Addr} {vs:List V} {ds:List PyData}:H a=some (.lst vs)->Dats H vs ds->Dat H (.ref a) (.list ds)
inductive Dats (H:Hp):List V->List PyData->Prop
 | nil:Dats H [] []
 | cons {v:V} {vs:List V} {d:PyData} {ds:List PyData}:Dat H v d->Dats H vs ds->Dats H (v :: vs) (d :: ds)
end
mutual
theorem Dat.mono {H H':Hp} (s:∀ a o,H a=some o->(∃ vs,o=.tup vs\/o=.lst vs)->H' a=some o):∀ {v:V} {d:PyData},Dat H v d->Dat H' v d
 | _,_,.non=>.non
 | _,_,.bl b=>.bl b
 | _,_,.int i=>.int i
 | _,_,.str x=>.str x
 | _,_,.tup e r=>.tup (s _ _ e ⟨_,.inl rfl⟩) (Dats.mono s r)
 | _,_,.lst e r=>.lst (s _ _ e ⟨_,.inr rfl⟩) (Dats.mono s r)
theorem Dats.mono {H H':Hp} (s:∀ a o,H a=some o->(∃ vs,o=.tup vs\/o=.lst vs)->H' a=some o):∀ {vs:List V} {ds:List PyData},Dats H vs ds->Dats H' vs ds
 | _,_,.nil=>.nil
 | _,_,.cons x r=>.cons (Dat.mono s x) (Dats.mono s r)
end
theorem Dat.same {H H':Hp} {v:V} {d:PyData} (h:Dat H v d) (s:Same H H'):Dat H' v d:=h.mono fun a o e _=>s a o e
mutual
theorem Dat.reads {X:Cx} {pins:List (Addr × Obj)} {σ:St} {H:Hp} {s:Shared} (I:Inv X pins σ H s):∀ {v:V} {d:PyData} {u:Value},Dat H v d->RelV v u->∃ as,Reads s.heap u d as
 | _,_,_,.non,r=>by cases r; exact ⟨_,.none⟩
 | _,_,_,.bl b,r=>by cases r; exact ⟨_,.bool b⟩
 | _,_,_,.int i,r=>by obtain ⟨t,rfl⟩:=r; exact ⟨_,.int i t⟩
 | _,_,_,.str x,r=>by obtain ⟨t,rfl⟩:=r; exact ⟨_,.str x t⟩
 | _,_,_,.tup (a:=a) e m,r=>by
  cases r
  obtain ⟨_,its,rv,⟨o,ho,hc,n,hd⟩,_⟩:=(show ObjOk X.prog X.w H s.heap a (.tup _) from I.hok a _ e)
  obtain ⟨as,q⟩:=Dats.reads I m rv
  exact ⟨_,.tuple ho hc hd (by simpa using q)⟩
 | _,_,_,.lst (a:=a) e m,r=>by
  cases r
  obtain ⟨_,its,n,rv,ho⟩:=(show ObjOk X.prog X.w H s.heap a (.lst _) from I.hok a _ e)
  obtain ⟨as,q⟩:=Dats.reads I m rv
  exact ⟨_,.list ho rfl rfl (by simpa using q)⟩
theorem Dats.reads {X:Cx} {pins:List (Addr × Obj)} {σ:St} {H:Hp} {s:Shared} (I:Inv X pins σ H s):∀ {vs:List V} {ds:List PyData} {us:List Value},Dats H vs ds->Vals vs us->∃ as,ReadsAll s.heap us ds as
 | _,_,_,.nil,r=>by cases r; exact ⟨_,.nil⟩
 | _,_,_,.cons x m,r=>by
  cases r with
  | cons r1 r2=>
   obtain ⟨as,q1⟩:=Dat.reads I x r1
   obtain ⟨bs,q2⟩:=Dats.reads I m r2
   exact ⟨_,.cons q1 q2⟩
end
theorem op_eq_dat {X:Cx} (hu:X.A.units + 64 < cLine):OpR X (compareOp .Eq) (fun x y H Q=>∃ d e,Dat H x d/\Dat H y e/\d.canLay0=true/\e.canLay0=true/\d.depth<=60/\Q (.bl (PyData.eqv d e)) H):=by
 intro pins s σ H x y v u Q I rx ry h
 obtain ⟨d,e,h1,h2,c1,c2,hd,q⟩:=h
 obtain ⟨as,r1⟩:=h1.reads I rx
 obtain ⟨bs,r2⟩:=h2.reads I ry
 exact SeqAt.compareEq_reads r1 r2 c1 c2 (by have:=Nat.min_le_left d.depth e.depth; (first|lia|omega)) ⟨.bl _,H,I,rfl,q⟩
theorem op_ne_dat {X:Cx} (hu:X.A.units + 64 < cLine):OpR X (compareOp .NotEq) (fun x y H Q=>∃ d e,Dat H x d/\Dat H y e/\d.canLay0=true/\e.canLay0=true/\d.depth<=60/\Q (.bl (!PyData.eqv d e)) H):=by
 intro pins s σ H x y v u Q I rx ry h
 obtain ⟨d,e,h1,h2,c1,c2,hd,q⟩:=h
 obtain ⟨as,r1⟩:=h1.reads I rx
 obtain ⟨bs,r2⟩:=h2.reads I ry
 exact SeqAt.compareNe_reads r1 r2 c1 c2 (by have:=Nat.min_le_left d.depth e.depth; (first|lia|omega)) ⟨.bl _,H,I,rfl,q⟩
theorem inV_strs (z:Str) (xs:List Str):inV (.str z) (xs.map V.str)=decide (z ∈ xs):=by
 unfold inV
 induction xs with
 | nil=>simp
 | cons x xs ih=>
  rw [List.map_cons,List.any_cons,ih]
  have e:eqV (.str x) (.str z)=decide (z=x):=by
   show (x == z)=_
   by_cases h:z=x
   ·subst h; simp
   ·have h':¬ x=z:=fun q=>h q.symm
    rw [decide_eq_false h]
    exact beq_eq_false_iff_ne.mpr h'
  rw [e]
  by_cases h:z=x
  ·simp [h]
  ·by_cases h2:z ∈ xs <;> simp [h,h2]
theorem flat_strs (xs:List Str):(xs.map V.str).all flatV=true:=by
 rw [List.all_map]
 exact List.all_eq_true.mpr fun _ _=>rfl
theorem slice_mem {x:Str} {l u:Option Int} {c:Nat} (h:c ∈ (Txt.slice x l u).cps.toList):c ∈ x.cps.toList:=by
 unfold Txt.slice at h
 split at h
 ·exact h
 ·rw [show ((⟨((Builtin.Str.strSliceIndices l u 1 x.length).filterMap (x.cps[·]?)).toArray⟩:Str).cps.toList)=(Builtin.Str.strSliceIndices l u 1 x.length).filterMap (x.cps[·]?) by simp] at h
  obtain ⟨i,_,e⟩:=List.mem_filterMap.mp h
  have:=Array.mem_of_getElem? e
  simpa using this
def Keep (p:Addr) (H H':Hp):Prop:=∀ b o,b ≠ p->H b=some o->H' b=some o
theorem Keep.refl (p:Addr) (H:Hp):Keep p H H:=fun _ _ _ e=>e
theorem Keep.trans {p:Addr} {H H1 H2:Hp} (a:Keep p H H1) (b:Keep p H1 H2):Keep p H H2:=fun c o n e=>b c o n (a c o n e)
theorem Keep.of_same {p:Addr} {H H':Hp} (s:Same H H'):Keep p H H':=fun b o _ e=>s b o e
theorem Keep.upd {p:Addr} {H:Hp} {o:HO}:Keep p H (L2.upd H p o):=fun b u n e=>by rw [upd_ne n]; exact e
end L2
namespace L2
open PySem PySem.Spec PyProof.Rows
def penK (a:Addr) (i l:Int):List (Key × V):=[(.inr "script",.ref a),(.inr "at",.int i),(.inr "left",.int l)]
theorem put_at (a:Addr) (i l j:Int):putK (penK a i l) (.inr "at":Key) (.int j)=penK a j l:=rfl
theorem put_left (a:Addr) (i l j:Int):putK (penK a i l) (.inr "left":Key) (.int j)=penK a i j:=rfl
theorem pen_len {a:Addr} {i l:Int}:(penK a i l).length < sizeLine:=by
 show 3 < sizeLine
 decide
def Scr (K:PySem.W.Frag) (H:Hp) (a:Addr) (xs:List V):Prop:=(∃ ob,H a=some (.frz ob (.lst xs)))\/∃ o its n,List.lookup a K=some o/\o.cls=Value.type "list"/\o.dict=none/\o.data=Data.seq its n/\its.size<=sizeLine/\Vals xs its.toList
theorem Scr.sq {K:PySem.W.Frag} {H:Hp} {a:Addr} {xs:List V} (h:Scr K H a xs):SqL K H a xs:=by
 rcases h with ⟨ob,h⟩ | h
 ·exact .inl (.inr ⟨ob,h⟩)
 ·exact .inr h
theorem Scr.other {K:PySem.W.Frag} {H:Hp} {a D:Addr} {xs:List V} {o0 o:HO} (h:Scr K H a xs) (hd:H D=some o0) (h1:∀ ob u,o0 ≠ .frz ob u):Scr K (upd H D o) a xs:=by
 rcases h with ⟨ob,h⟩ | h
 ·exact .inl ⟨ob,by rw [upd_ne (ne_of h hd fun z=>h1 _ _ z.symm)]; exact h⟩
 ·exact .inr h
theorem Scr.same {K:PySem.W.Frag} {H H':Hp} {a:Addr} {xs:List V} (h:Scr K H a xs) (s:Same H H'):Scr K H' a xs:=by
 rcases h with ⟨ob,h⟩ | h
 ·exact .inl ⟨ob,s _ _ h⟩
 ·exact .inr h
theorem seq_upd {K:PySem.W.Frag} {H:Hp} {p a:Addr} {kvs:List (Key × V)} {o:HO} {xs:List V} (hp:H p=some (.dK kvs)) (h:Scr K H a xs):Scr K (upd H p o) a xs:=h.other hp (by intro _ _ z; cases z)
structure PenAt (K:PySem.W.Frag) (H:Hp) (p a:Addr) (ns:List Int) (i l:Int):Prop where
 dc:H p=some (.dK (penK a i l))
 sq:Scr K H a (ns.map V.int)
 ge:0<=i
def spPen (K:PySem.W.Frag):Sp:=fun vs H Q _=>∃ (a:Addr),vs=[.ref a]/\∀ (p:Addr),H p=none->Q (.ref p) (upd H p (.dK (penK a 0 0)))
def spTake (K:PySem.W.Frag):Sp:=fun vs H Q _=>∃ (p a:Addr) (ns:List Int) (i l m:Int),vs=[.ref p,.int m]/\PenAt K H p a ns i l/\0 < m/\m < 1073741824/\ns.length<=63 /\
 ∀ (d i' l':Int),0<=d->d < m->PenAt K (upd H p (.dK (penK a i' l'))) p a ns i' l'->Q (.int d) (upd H p (.dK (penK a i' l')))
theorem at_ns {ns:List Int} {i:Int} (h0:0<=i) (h1:i < ns.length):∃ c,atI (ns.map V.int) i=some (V.int c):=by
 obtain ⟨n,rfl⟩:∃ n:Nat,i=(n:Int):=⟨i.toNat,by (first|lia|omega)⟩
 have hn:n < ns.length:=by (first|lia|omega)
 exact ⟨ns[n],atI_nat (by rw [List.getElem?_map,List.getElem?_eq_getElem hn]; rfl)⟩
theorem at_some {α:Type} {l:List α} {i:Int} (h0:0<=i) (h1:i < l.length):∃ c,atI l i=some c:=by
 obtain ⟨n,rfl⟩:∃ n:Nat,i=(n:Int):=⟨i.toNat,by (first|lia|omega)⟩
 have hn:n < l.length:=by (first|lia|omega)
 exact ⟨l[n],atI_nat (List.getElem?_eq_getElem hn)⟩
theorem PenAt.same {K:PySem.W.Frag} {H H':Hp} {p a:Addr} {ns:List Int} {i l:Int} (h:PenAt K H p a ns i l) (s:Same H H'):PenAt K H' p a ns i l:=⟨s _ _ h.dc,h.sq.same s,h.ge⟩
theorem keep_pen {H:Hp} {p a:Addr} {i l i' l':Int} {b:Addr} {o:HO} (hp:H p=some (.dK (penK a i l))) (hb:H b=some o) (ne:o ≠ .dK (penK a i l)):(upd H p (.dK (penK a i' l'))) b=some o:=by
 rw [upd_ne (ne_of hb hp ne)]
 exact hb
theorem at_mem {α:Type} {l:List α} {i:Int} {c:α} (h:atI l i=some c):c ∈ l:=by
 obtain ⟨j,_,h2,_⟩:=atI_get h
 exact List.mem_of_getElem? h2
theorem PenAt.other {K:PySem.W.Frag} {H:Hp} {p a D:Addr} {ns:List Int} {i l:Int} {o0 o:HO} (h:PenAt K H p a ns i l) (hd:H D=some o0) (h1:∀ ob u,o0 ≠ .frz ob u) (h2:∀ kvs,o0 ≠ .dK kvs):PenAt K (upd H D o) p a ns i l:=
 ⟨by rw [upd_ne (ne_of h.dc hd fun z=>h2 _ z.symm)]; exact h.dc,h.sq.other hd h1,h.ge⟩
theorem PenAt.fresh {K:PySem.W.Frag} {H:Hp} {p a:Addr} {ns:List Int} {i l:Int} {q:Addr} (h:PenAt K H p a ns i l) (e:H q=none):q ≠ p:=by
 intro z; subst z; rw [h.dc] at e; cases e
end L2
namespace L2
open PySem PySem.Spec PyProof.Rows
abbrev letters:Str:="abcdefghijklmnopqrstuvwxyz"
theorem letters_low:∀ c ∈ letters.cps.toList,lowc c=true:=by decide +kernel
theorem letter_nat:∀ n:Nat,n < 26->letters.cps.toList[n]? = some (97 + n):=by
 intro n h
 have:∀ k:_root_.Fin 26,letters.cps.toList[k.val]? = some (97 + k.val):=by decide +kernel
 exact this ⟨n,h⟩
theorem letter_at {d:Int} (h0:0<=d) (h1:d < 26):atI letters.cps.toList d=some (97 + d.toNat):=by
 obtain ⟨n,rfl⟩:∃ n:Nat,d=(n:Int):=⟨d.toNat,by (first|lia|omega)⟩
 exact atI_nat (letter_nat n (by (first|lia|omega)))
def Low (z:Str):Prop:=∀ c ∈ z.cps.toList,lowc c=true
theorem low_app {x:Str} {c:Nat} (h:Low x) (hc:lowc c=true):Low (x ++ ⟨#[c]⟩):=by
 intro k hk
 have e:(x ++ (⟨#[c]⟩:Str)).cps.toList=x.cps.toList ++ [c]:=by
  rw [Str.cps_append]
  simp
 rw [e] at hk
 rcases List.mem_append.mp hk with h' | h'
 ·exact h k h'
 ·rw [List.mem_singleton.mp h']; exact hc
theorem nameB_of {z:Str} (h1:1<=z.length) (h2:z.length<=6) (h:Low z):nameB z=true:=by
 unfold nameB
 rw [decide_eq_true h1,decide_eq_true h2,List.all_eq_true.mpr h]
 rfl
theorem low_of {z:Str} (h:nameB z=true):1<=z.length/\z.length<=6/\Low z:=by
 unfold nameB at h
 rw [Bool.and_eq_true,Bool.and_eq_true,decide_eq_true_eq,decide_eq_true_eq,List.all_eq_true] at h
 exact ⟨h.1.1,h.1.2,h.2⟩
def combo (m:Nat):Str:=(⟨#[97 + m / 26 % 26]⟩:Str) ++ ⟨#[97 + m % 26]⟩
theorem combo_cps (m:Nat):(combo m).cps.toList=[97 + m / 26 % 26,97 + m % 26]:=by
 unfold combo
 rw [Str.cps_append]
 rfl
theorem combo_inj {m n:Nat} (h1:m < 676) (h2:n < 676) (h:combo m=combo n):m=n:=by
 have e:=congrArg (fun z:Str=>z.cps.toList) h
 rw [combo_cps,combo_cps] at e
 injection e with e1 e2
 injection e2 with e2 _
 (first|lia|omega)
theorem combo_name (m:Nat):nameB (combo m)=true:=by
 have e:(combo m).length=2:=by
  unfold combo
  rw [Str.length_append]
  rfl
 refine nameB_of (by (first|lia|omega)) (by (first|lia|omega)) fun c hc=>?_
 rw [combo_cps] at hc
 unfold lowc
 rw [Bool.and_eq_true,decide_eq_true_eq,decide_eq_true_eq]
 rcases List.mem_cons.mp hc with rfl | hc
 ·(first|lia|omega)
 ·rw [List.mem_singleton.mp hc]; (first|lia|omega)
theorem len_le_of_sub {α:Type} [BEq α] [LawfulBEq α]:∀ {l xs:List α},l.Nodup->(∀ x ∈ l,x ∈ xs)->l.length<=xs.length
 | [],_,_,_=>Nat.zero_le _
 | a :: l,xs,hn,hs=>by
  have ha:=hs a List.mem_cons_self
  have hn':=List.nodup_cons.mp hn
  have:=len_le_of_sub (l:=l) (xs:=xs.erase a) hn'.2 fun x hx=>(List.mem_erase_of_ne (show x ≠ a from fun e=>hn'.1 (by rw [<-e]; exact hx))).mpr (hs x (List.mem_cons_of_mem _ hx))
  rw [List.length_erase_of_mem ha] at this
  have:0 < xs.length:=List.length_pos_of_mem ha
  rw [List.length_cons]
  (first|lia|omega)
theorem nodup_map_range {α:Type} {f:Nat->α}:∀ {n:Nat},(∀ i j,i < n->j < n->f i=f j->i=j)->((List.range n).map f).Nodup:=by
 intro n h
 rw [List.Nodup,List.pairwise_map]
 refine List.Pairwise.imp_of_mem (R:=fun a b=>a ≠ b) (fun {a b} ha hb hne e=>?_) List.nodup_range
 exact hne (h a b (List.mem_range.mp ha) (List.mem_range.mp hb) e)
theorem combo_bound {n:Nat} {xs:List Str} (h:∀ m,m < n->combo m ∈ xs) (hx:xs.length<=30):n<=30:=by
 have h1:((List.range (min n 676)).map combo).Nodup:=nodup_map_range fun i j hi hj e=>combo_inj (by (first|lia|omega)) (by (first|lia|omega)) e
 have h2:=len_le_of_sub h1 (xs:=xs) fun x hx=>by
  obtain ⟨m,hm,rfl⟩:=List.mem_map.mp hx
  exact h m (by have:=List.mem_range.mp hm; (first|lia|omega))
 rw [List.length_map,List.length_range] at h2
 (first|lia|omega)
theorem eqv_nil (xs:List Str):PyData.eqv (.list (xs.map .str)) (.list [])=xs.isEmpty:=by
 cases xs <;> rfl
theorem dats_strs (H:Hp):∀ xs:List Str,Dats H (xs.map V.str) (xs.map .str)
 | []=>.nil
 | x :: xs=>.cons (.str x) (dats_strs H xs)
theorem lay_strs:∀ {xs:List Str},(∀ x ∈ xs,nameB x=true)->PyData.canLayAll0 (xs.map .str)=true
 | [],_=>rfl
 | x :: xs,h=>by
  show (PyData.strOk x && PyData.canLayAll0 (xs.map .str))=true
  rw [lay_strs fun y hy=>h y (List.mem_cons_of_mem _ hy),Bool.and_true]
  obtain ⟨_,_,lo⟩:=low_of (h x List.mem_cons_self)
  unfold PyData.strOk
  rw [Array.all_eq_true_iff_forall_mem]
  intro c hc
  have:=lo c (by simpa using hc)
  unfold lowc at this
  rw [Bool.and_eq_true,decide_eq_true_eq,decide_eq_true_eq] at this
  rw [decide_eq_true_eq]
  (first|lia|omega)
theorem depth_strs:∀ xs:List Str,PyData.depthAll (xs.map .str)=0
 | []=>rfl
 | x :: xs=>by
  show max 0 (PyData.depthAll (xs.map .str))=0
  rw [depth_strs xs]
  rfl
def forBody:Stmt->List Stmt
 | .For _ _ b _ _=>b
 | _=>[]
def spNames (K:PySem.W.Frag):Sp:=fun vs H Q _=>∃ (p a:Addr) (ns:List Int) (i l:Int) (n:Nat),vs=[.ref p,.int n]/\PenAt K H p a ns i l/\ns.length<=63/\n<=30 /\
 ∀ (H':Hp) (D:Addr) (xs:List Str) (i' l':Int),PenAt K H' p a ns i' l'->Keep p H H'->H D=none->H' D=some (.lst (xs.map V.str))->xs.length=n->xs.Nodup->(∀ x ∈ xs,nameB x=true)->Q (.ref D) H'
end L2
namespace L2
open PySem PySem.Spec PyProof.Rows
theorem CompOk.caught {X:Cx} {scope:Scope} {cl:List (Str × Addr)} (clos:closureFor scope X.env=pure cl) (hcell:∀ y ∈ scope.names,y.2 ≠ .cell) (hkind:scope.kind=.function)
  (hnames:∀ y ∈ scope.names,y.2=.local->scope.names.lookup y.1=some .local) (hcl:∀ y ∈ cl,X.env.cells.lookup y.1=some y.2)
  (hfr:∀ y ∈ scope.names,y.2=.free->∃ c,cl.lookup y.1=some c):CompOk X scope cl:=by
 refine ⟨clos,hcell,hkind,hnames,fun x c h=>hcl _ (lookup_mem h),fun x h=>?_⟩
 have key:∀ k,(relabel scope X.env).names.lookup x=some k->k=.cell\/k=.free->∃ c,cl.lookup x=some c:=by
  intro k e hk
  have m:=lookup_mem e
  obtain ⟨⟨n,k'⟩,hm,e'⟩:=List.mem_map.mp m
  dsimp only at e'
  by_cases hf:k'=.free
  ·subst hf
   have en:n=x:=by
    by_cases hc:(NameKind.free == NameKind.free && X.env.scope.kind == .function && X.env.kindOf n == some .cell)=true
    ·rw [if_pos hc] at e'
     injection e'
    ·rw [if_neg hc] at e'
     injection e'
   subst en
   exact hfr _ hm rfl
  ·have:(k' == NameKind.free)=false:=by
    cases k' <;> first | rfl | exact absurd rfl hf
   rw [this] at e'
   simp at e'
   rcases hk with hk | hk
   ·exact absurd (e'.2.trans hk) (hcell _ hm)
   ·exact absurd (e'.2.trans hk) hf
 rcases h with h | h
 ·exact key _ h (.inl rfl)
 ·exact key _ h (.inr rfl)
theorem Carry.of {X:Cx} {cl:List (Str × Addr)} {scope:Scope} {N:List Str} {σ:St} (js:List (Option Nat)) (hl:js.length=N.length)
  (h:∀ (i j:Nat) (x:Str),N[i]? = some x->js[i]? = some (some j)->X.N[j]? = some x/\(X.env.kindOf x=some .cell\/X.env.kindOf x=some .free)/\((relabel scope X.env).names.lookup x=some .cell\/(relabel scope X.env).names.lookup x=some .free)) :
  Carry X cl scope N σ (js.map fun j=>j.bind fun j=>(σ[j]?).join):=by
 refine ⟨by rw [List.length_map,hl],fun i x v h1 h2=>?_⟩
 rw [List.getElem?_map] at h2
 cases e:js[i]? with
 | none=>rw [e] at h2; cases h2
 | some o=>
  rw [e] at h2
  cases o with
  | none=>cases h2
  | some j=>
   obtain ⟨a,b,c⟩:=h i j x h1 e
   refine ⟨⟨j,a,?_⟩,b,c⟩
   have h3:(σ[j]?).join=some v:=Option.some.inj h2
   cases e2:σ[j]? with
   | none=>rw [e2] at h3; cases h3
   | some o=>
    rw [e2] at h3
    have:o=some v:=h3
    rw [this]
end L2
namespace L2
open PySem PySem.Spec PyProof.Rows
theorem dats_app {H:Hp}:∀ {vs us:List V} {ds es:List PyData},Dats H vs ds->Dats H us es->Dats H (vs ++ us) (ds ++ es)
 | _,_,_,_,.nil,h=>h
 | _,_,_,_,.cons a r,h=>.cons a (dats_app r h)
theorem ix_tupK (K:PySem.W.Frag) {X:Cx} (h:X.K=K):IxR X (rIxT K):=by subst h; exact ix_tup
theorem pg_tupK (K:PySem.W.Frag) {X:Cx} (h:X.K=K) {es:List Expr} {k:Nat} {t:TGs} {n:Nat} {pos:Pos} (hc:X.calm=true) (ht:PGs X es t)
  (hn:(assignEach es X.env).length=n:=by rfl) (hst:(assignEach es X.env).findIdx? (·.1)=none:=by rfl):PG X (.Tuple es k pos) (gTup K n t):=by subst h; exact pg_tup hc ht hn hst
end L2
namespace L2
open PySem PySem.W PyProof.Rows
section
variable {n:Nat} (hn:0 < n)
include hn
end
end L2
namespace L2
open PySem PySem.Spec PyProof.Rows PySem.W
theorem ObjOk.there {P:Program} {w:World} {H:Hp} {h:Heap} {a:Addr} {o:HO} (x:ObjOk P w H h a o):∃ ob,h.get? a=some ob:=by
 cases o with
 | lst xs=>obtain ⟨_,_,_,_,e⟩:=x; exact ⟨_,e⟩
 | tup xs=>obtain ⟨_,_,_,⟨ob,e,_⟩,_⟩:=x; exact ⟨ob,e⟩
 | dK kvs=>obtain ⟨_,_,_,_,o,_,_,e,_⟩:=x; exact ⟨o,e⟩
 | dT kvs=>obtain ⟨_,_,_,_,o,_,_,e,_⟩:=x; exact ⟨o,e⟩
 | set S n=>obtain ⟨o,_,_,_,e,_⟩:=x; exact ⟨o,e⟩
 | ins C dx fs=>obtain ⟨_,_,_,e,_⟩:=x; exact ⟨_,e⟩
 | own y=>exact x
 | xd fs=>obtain ⟨_,⟨_,_,_,e,_⟩,_⟩:=x; exact ⟨_,e⟩
 | rng lo hi=>obtain ⟨_,_,_,e⟩:=x; exact ⟨_,e⟩
 | frz ob u=>obtain ⟨e,_⟩:=x; exact ⟨_,e⟩
 | tbl ps=>exact ⟨_,(show h.get? a=some _ from x)⟩
 | met f y=>exact ⟨_,(show h.get? a=some _ from x)⟩
 | ext φ=>obtain ⟨_,⟨_,e⟩,_⟩:=x; exact ⟨_,e⟩
theorem Inv.laidF {X:Cx} {pins:List (Addr × Obj)} {σ:St} {H:Hp} {s:Shared} {h2:Heap} {D:Addr} {o:HO} {m:Str->Option Value} (I:Inv X pins σ H s)
  (hl:s.heap.Ns X.env.locals m/\∀ (i:Nat) (x:Str) (v:V),X.N[i]? = some x->σ[i]? = some (some v)->Vis X.env.scope x->∃ u,RelV v u/\Look X.env s.heap m x u) (hn:h2.Ns X.env.locals m)
  (kp:∀ b ob,b ≠ X.env.locals->s.heap.get? b=some ob->h2.get? b=some ob) (hD:s.heap.get? D=none) (hDL:D ≠ X.env.locals) (new:ObjOk X.prog X.w (upd H D o) h2 D o):Inv X pins σ (upd H D o) { s with heap:=h2 }:=by
 have fD:H D=none:=by
  cases z:H D with
  | none=>rfl
  | some u=>
   obtain ⟨ob,e⟩:=ObjOk.there (I.hok D u z)
   rw [hD] at e
   cases e
 have neL:∀ b ob,X.s₀.heap.get? b=some ob->b ≠ X.env.locals:=fun b ob e=>Nat.ne_of_lt (Nat.lt_of_lt_of_le (Heap.lt_size e) I.ok.above)
 have neD:∀ b ob,s.heap.get? b=some ob->b ≠ D:=fun b ob e z=>by rw [z,hD] at e; cases e
 have cellK:∀ x c,X.env.cells.lookup x=some c->∀ v,s.heap.IsCell c v->h2.IsCell c v:=fun x c e v ⟨ob,ho,hd⟩=>⟨ob,kp c ob (I.cne x c e) ho,hd⟩
 refine ⟨I.ok,I.os,I.bare,⟨?_,?_,?_,?_,?_,?_,?_⟩,⟨m,hn,?_⟩,?_,?_,?_,?_,?_,I.len⟩
 ·exact fun b ob e n hb hx=>kp b ob (neL b ob e) (I.base.keep b ob e n hb hx)
 ·intro b ob e n hb hx
  obtain ⟨sl,q⟩:=I.base.slot b ob e n hb hx
  exact ⟨sl,kp b _ (neL b ob e) q⟩
 ·intro b ob e n hx
  obtain ⟨ob',q⟩:=I.base.there b ob e hx
  rw [upd_ne (neD b ob' q)]
  exact I.base.free b ob e n hx
 ·intro b ob e hx
  obtain ⟨ob',q⟩:=I.base.there b ob e hx
  exact ⟨ob',kp b ob' (neL b ob e) q⟩
 ·intro b xs e
  have q:=I.base.tups b xs e
  rw [upd_ne (ne_of_none q fD)]
  exact q
 ·intro b ob u e
  have q:=I.base.frzs b ob u e
  rw [upd_ne (ne_of_none q fD)]
  exact q
 ·intro b ps e
  obtain ⟨more,q⟩:=I.base.tbls b ps e
  exact ⟨more,by rw [upd_ne (ne_of_none q fD)]; exact q⟩
 ·intro i x v e1 e2 e3
  obtain ⟨u,r,l⟩:=hl.2 i x v e1 e2 e3
  refine ⟨u,r,?_⟩
  rcases l with l | ⟨k,c,e,z⟩
  ·exact .inl l
  ·exact .inr ⟨k,c,e,cellK x c e _ z⟩
 ·intro x c e
  obtain ⟨v,z⟩:=I.cell x c e
  exact ⟨v,cellK x c e v z⟩
 ·rw [upd_ne (Ne.symm hDL)]
  exact I.free
 ·intro x c e
  obtain ⟨v,ob,ho,_⟩:=I.cell x c e
  rw [upd_ne (neD c ob ho)]
  exact I.freeC x c e
 ·intro p hp
  obtain ⟨e,n,ne,nf,d⟩:=I.pin p hp
  exact ⟨kp _ _ ne e,by rw [upd_ne (neD _ _ e)]; exact n,ne,nf,d⟩
 ·intro b u e
  by_cases hb:b=D
  ·subst hb
   rw [upd_same] at e
   cases e
   exact new
  ·rw [upd_ne hb] at e
   refine (I.hok b u e).stay (fun c v hc q=>kp c v ?_ q) (fun c q=>by rw [upd_ne (ne_of_none q fD)]; exact q) fun c xs q=>by rw [upd_ne (ne_of_none q fD)]; exact q
   rintro rfl
   rcases hc with rfl | hc
   ·rw [I.free] at e; cases e
   ·rw [I.free] at hc; cases hc
end L2
namespace L2
open PySem PySem.Spec PyProof.Rows
section
variable {prog:Program} {w:World} {A:Around} {E:Value->Shared->Prop} {s:Shared}
end
end L2
namespace L2
open PySem PySem.Spec PyProof.Rows
theorem strs_of {ss:List Str}:∀ {us:List Value},Vals (ss.map V.str) us->StrsAre us ss:=by
 induction ss with
 | nil=>intro us r; cases r; exact .nil
 | cons x ss ih=>
  intro us r
  cases r with
  | cons r1 r2=>
   obtain ⟨t,rfl⟩:=r1
   exact .cons x t (ih r2)
theorem of_strs:∀ {us:List Value} {ss:List Str},StrsAre us ss->Vals (ss.map V.str) us
 | _,_,.nil=>.nil
 | _,_,.cons x t r=>.cons ⟨t,rfl⟩ (of_strs r)
theorem call_sorted_strs {X:Cx}:CallR X (.builtin "sorted") (fun xs H Q=>∃ (a:Addr) (ss:List Str),xs=[.ref a]/\SqL X.K H a (ss.map V.str)/\ss.length < 64 /\
  ∀ (l:Addr) (ss':List Str),H l=none->ss'.Perm ss->sortedS ss'=true->Q (.ref l) (upd H l (.lst (ss'.map V.str)))):=by
 intro pins s σ H xs us Q I r h
 obtain ⟨a,ss,rfl,ha,h64,q⟩:=h
 obtain ⟨u,rfl,ru⟩:=vals1 r
 cases ru
 obtain ⟨its,rv,pl,hz⟩:=I.list ha
 have hl:its.length=ss.length:=by rw [<-rv.length,List.length_map]
 refine sorted_strs pl.isList (strs_of rv) (by (first|lia|omega)) fun out ss' h1 h2 h3=>?_
 obtain ⟨e,he⟩:=sortedAll_at s.heap its out
 refine ⟨.ref (s.heap.objs.size + 1),_,I.laid (o:=.lst (ss'.map V.str)) (t':=s.toks) (fun b o z=>sortedAll_old z) (Nat.le_succ _) ⟨?_,out.toList,e,of_strs h1,by simpa using he⟩,rfl,q _ ss' (I.hok.fresh (Nat.le_succ _)) h2 h3⟩
 rw [List.length_map,h2.length_eq]
 have:100 < sizeLine:=by decide
 (first|lia|omega)
end L2
namespace L2
open PySem PySem.Spec PySem.W PyProof.Rows
section
variable {prog:Program} {w:World} {A:Around} {E:Value->Shared->Prop} {s:Shared} {lt:Keyed->Keyed->Bool}
end
end L2
namespace L2
open PySem PySem.Spec PySem.W PyProof.Rows
section
variable {prog:Program} {w:World} {A:Around} {E:Value->Shared->Prop} {s:Shared} {Q:Bool->Shared->Prop}
end
end L2
namespace L2
open PySem PySem.Spec PyProof.Rows
section
variable {prog:Program} {w:World} {A:Around} {E:Value->Shared->Prop} {s:Shared}
end
end L2
namespace L2
open PySem PySem.Spec PyProof.Rows
end L2
namespace L2
open PySem PySem.Spec PyProof.Rows
end L2
namespace L2
open PySem PySem.Spec PyProof.Rows
end L2
namespace L2
open PySem PySem.Spec PyProof.Rows
section
variable {prog:Program} {w:World} {A:Around} {E:Value->Shared->Prop} {s:Shared}
end
theorem lt_irr (a:List Nat):¬ a < a:=List.lt_irrefl a
end L2
namespace L2
open PySem PySem.Spec PyProof.Rows
section
variable {X:Cx} {pins:List (Addr × Obj)} {σ σ':St} {H H':Hp} {s2 s':Shared} {scope:Scope} {cl:List (Str × Addr)} {N:List Str} {fp:List Addr} {C D:Addr} {h₁ h':Heap} {t':Nat}
end
section
variable {prog:Program} {w:World} {A:Around} {R:Result->Shared->Prop} {s:Shared}
end
end L2
namespace L2
open PySem PySem.Spec PyProof.Rows
theorem risingS_cons (p x:Str) (r:List Str):risingS p (x :: r)=(!ltCps x.cps.toList p.cps.toList && risingS x r):=rfl
theorem rising_pw:∀ (p:Str) (l:List Str),risingS p l=true->(p :: l).Pairwise fun a b=>¬ b.cps.toList < a.cps.toList
 | p,[],_=>List.pairwise_singleton _ _
 | p,x :: r,h=>by
  rw [risingS_cons,Bool.and_eq_true,ltCps_eq] at h
  have h1:¬ x.cps.toList < p.cps.toList:=by simpa using h.1
  have h2:=rising_pw x r h.2
  refine List.pairwise_cons.mpr ⟨fun y hy=>?_,h2⟩
  rcases List.mem_cons.mp hy with rfl | hy
  ·exact h1
  ·have h3:=(List.pairwise_cons.mp h2).1 y hy
   have a:p.cps.toList<=x.cps.toList:=List.not_lt.mp h1
   have b:x.cps.toList<=y.cps.toList:=List.not_lt.mp h3
   exact List.not_lt.mpr (List.le_trans a b)
theorem sorted_pw {l:List Str} (h:sortedS l=true):l.Pairwise fun a b=>¬ b.cps.toList < a.cps.toList:=by
 cases l with
 | nil=>exact .nil
 | cons p l=>exact rising_pw p l h
theorem str_anti {a b:Str} (h1:¬ b.cps.toList < a.cps.toList) (h2:¬ a.cps.toList < b.cps.toList):a=b:=by
 have e:a.cps.toList=b.cps.toList:=List.le_antisymm (List.not_lt.mp h1) (List.not_lt.mp h2)
 cases a; cases b
 simp only [Str.mk.injEq]
 exact Array.toList_inj.mp e
theorem sorted_eq {l m:List Str} (hl:l.Pairwise fun a b=>¬ b.cps.toList < a.cps.toList) (hm:m.Pairwise fun a b=>¬ b.cps.toList < a.cps.toList) (p:l.Perm m):l=m:=
 List.Perm.eq_of_pairwise (fun a b _ _ h1 h2=>str_anti h1 h2) hl hm p
theorem perm_of_mem {l m:List Str} (hl:l.Nodup) (hm:m.Nodup) (h:∀ x,x ∈ l ↔ x ∈ m):l.Perm m:=(List.perm_ext_iff_of_nodup hl hm).mpr h
section
variable {ws:List Way} {r:Str} {bs cs:List (Str × Option Str)}
end
section
variable {ws:List Way} {r:Str} {wk:List (Str × List Str)}
end
end L2
namespace L2
open PySem PySem.Spec PyProof.Rows
end L2
namespace L2
open PySem PySem.Spec PyProof.Rows
end L2
namespace L2
open PySem PySem.Spec PyProof.Rows
end L2
namespace L2
open PySem PySem.Spec PyProof.Rows
end L2
namespace L2
open PySem PySem.Spec PyProof.Rows
section
variable {ws:List Way} {r:Str} {bs:List (Str × Option Str)} {wk:List (Str × List Str)} {ps:List Str}
end
end L2
namespace L2
open PySem PySem.Spec PyProof.Rows
section
open PySem.SeqAt
open PySem.AutoSeq1 (wpAny_loadPart')
open PySem.MeetsSeq PySem.MeetsSeq2 PySem.MeetsSeq3
end
end L2
namespace L2
open PySem PySem.Spec PyProof.Rows
section
variable {prog:Program} {w:World} {A:Around} {R:Result->Shared->Prop} {I:Addr} {fp wr:List Addr} {n:Nat} {P:Nat->Value->Prop} {St:Nat->Heap->Prop} {g0:Heap}
end
section
variable {prog:Program} {w:World} {A:Around} {E:Value->Shared->Prop} {s:Shared}
end
end L2
namespace L2
open PySem PySem.Spec PyProof.Rows
section
variable {prog:Program} {w:World} {A:Around} {E:Value->Shared->Prop} {s:Shared}
end
end L2
namespace L2
open PySem PySem.Spec PyProof.Rows
end L2
namespace L2
open PySem PySem.Spec PyProof.Rows
end L2
namespace L2
open PySem PySem.Spec PyProof.Rows
section
variable {H H2 H3:Hp} {ps:List Str} {ws:List Way} {B RA SA:Addr} {ds:List Addr} {nvR nvS:List (Str × V)} {S R:Str->Int × Str->Prop}
end
end L2
namespace L2
open PySem PySem.Spec PyProof.Rows
end L2
namespace L2
open PySem PySem.Spec PyProof.Rows
section
variable {prog:Program} {w:World} {A:Around} {R:Result->Shared->Prop} {g0:Heap} {D it l:Addr} {vs:List Value} {ps:List (Str × V)}
end
end L2
namespace L2
open PySem PySem.Spec PyProof.Rows
section
variable {prog:Program} {w:World} {A:Around} {E:Value->Shared->Prop} {s:Shared}
end
end L2
namespace L2
open PySem PySem.Spec PyProof.Rows
end L2
namespace L2
open PySem PySem.Spec PySem.W PyProof.Rows
end L2
namespace L2
open PySem PySem.Spec PyProof.Rows
end L2
namespace L2
open PySem PySem.Spec PyProof.Rows
theorem strs_are:∀ {ss:List Str} {us:List Value},Vals (ss.map V.str) us->StrsAre us ss
 | [],_,.nil=>.nil
 | _ :: _,_,.cons r q=>by
  obtain ⟨t,rfl⟩:=r
  exact .cons _ t (strs_are q)
theorem mt_join {X:Cx}:MtM X "str.join" (fun x vs H Q=>∃ (z:Str) (a:Addr) (ss:List Str),x=.str z/\vs=[.ref a]/\H a=some (.lst (ss.map V.str))/\z.length<=16/\(ss.map (·.length)).sum + ss.length<=1048576/\Q (.str (Txt.join z ss)) H):=by
 intro pins s σ H x vs v us Q I rx rv h
 obtain ⟨z,a,ss,rfl,rfl,hH,hz,hw,q⟩:=h
 obtain ⟨t,rfl⟩:=rx
 obtain ⟨u,rfl,ru⟩:=rv.one
 cases ru
 obtain ⟨_,its,n,r,_,e⟩:=I.lstM hH
 refine join_listW (ys:=ss) ⟨_,e,rfl,n,rfl⟩ (by rw [List.toList_toArray]; exact strs_are r) hz hw fun t' k=>?_
 exact ⟨.str (Txt.join z ss),H,I.tok k,⟨t',rfl⟩,q⟩
end L2
namespace L2
open PySem PySem.Spec PyProof.Rows
theorem len1 {α:Type} {l:List α} (h:l.length=1):∃ a,l=[a]:=List.length_eq_one_iff.mp h
theorem lenS {α:Type} {n:Nat} {l:List α} (h:l.length=n + 1):∃ a r,l=a :: r/\r.length=n:=by
 cases l with
 | nil=>cases h
 | cons a r=>exact ⟨a,r,rfl,Nat.succ.inj h⟩
theorem len2 {α:Type} {l:List α} (h:l.length=2):∃ a b,l=[a,b]:=by
 obtain ⟨a,r,rfl,hr⟩:=lenS h
 obtain ⟨b,rfl⟩:=len1 hr
 exact ⟨a,b,rfl⟩
theorem len3 {α:Type} {l:List α} (h:l.length=3):∃ a b c,l=[a,b,c]:=by
 obtain ⟨a,r,rfl,hr⟩:=lenS h
 obtain ⟨b,c,rfl⟩:=len2 hr
 exact ⟨a,b,c,rfl⟩
end L2
namespace L2
open PySem PySem.Spec PyProof.Rows
section
variable {K:Type} [DecidableEq K] [BEq K] [LawfulBEq K]
def met (val:Nat->K) (i:Nat):List K:=((List.range i).map val).foldl step_dedup []
theorem met_succ (val:Nat->K) (i:Nat):met val (i + 1)=step_dedup (met val i) (val i):=by
 unfold met; rw [List.range_succ,List.map_append,List.foldl_append]; rfl
theorem stepK_any (σ:List K) (v k:K):(step_dedup σ v).any (· == k)=(σ.any (· == k) || decide (k=v)):=by
 unfold step_dedup
 by_cases h:σ.any (· == v)=true
 ·rw [if_pos h]
  by_cases e:k=v
  ·subst e; rw [h]; simp
  ·simp [e]
 ·rw [if_neg h,List.any_append]
  by_cases e:k=v
  ·subst e; simp
  ·have hb:(v == k)=false:=by simpa [beq_iff_eq] using (fun h':v=k=>e h'.symm)
   simp [hb,e]
theorem stepK_length (σ:List K) (v:K):(step_dedup σ v).length=if σ.any (· == v) then σ.length else σ.length + 1:=by
 unfold step_dedup; split <;> simp
theorem met_length_le (val:Nat->K):∀ i,(met val i).length<=i
 | 0=>Nat.le_refl _
 | i + 1=>by
  rw [met_succ,stepK_length]
  have ih:=met_length_le val i
  split <;> (first|lia|omega)
end
section
variable {prog:Program} {w:World} {A:Around} {R:Result->Shared->Prop} {I:Addr} {fp wr:List Addr} {G:Array GenState->Array GenState->Prop} {n:Nat} {P:Nat->Value->Prop} {St:Nat->Shared->Prop}
variable {K:Type} [DecidableEq K] [BEq K] [LawfulBEq K] {knd:KeyKind prog w K}
end
section
variable {prog:Program} {w:World} {A:Around} {E:Value->Shared->Prop} {s:Shared}
variable {K:Type} [DecidableEq K] [BEq K] [LawfulBEq K] {knd:KeyKind prog w K}
open PySem.F in
end
theorem met_list (ss:List Str):met (fun i=>ss.getD i (Str.ofString "")) ss.length=ss.foldl step_dedup []:=by
 unfold met
 congr 1
 refine List.ext_getElem (by simp) fun i h1 h2=>?_
 simp [List.getD_eq_getElem?_getD,List.getElem?_eq_getElem h2]
end L2
namespace L2
open PySem PySem.Spec PyProof.Rows
theorem laid_led {mask finger moves:Nat} {led plain:Bool} {hs:Array Int} {t:SetTable} {o:Array Nat} (h:SetTable.laid mask finger moves led plain hs=some (t,o)):t.led=led/\t.plain=plain:=by
 unfold SetTable.laid at h
 cases e:SetTable.layClean mask hs with
 | none=>rw [e] at h; cases h
 | some ow=>
  rw [e] at h
  injection h with h
  injection h with h1 h2
  subst h1
  exact ⟨rfl,rfl⟩
theorem relay_led (t:SetTable) (es:Array (Int × Value)) (wanted:Nat):(relayAll t es wanted).2.1.led=t.led/\(t.plain=false->(relayAll t es wanted).2.1.plain=false):=by
 unfold relayAll
 split
 ·rename_i t' order e
  have:=laid_led e
  dsimp only
  split
  ·exact ⟨this.1,fun z=>this.2.trans z⟩
  ·exact ⟨rfl,fun _=>rfl⟩
 ·exact ⟨rfl,fun _=>rfl⟩
theorem lay_led (t:SetTable) (es:Array (Int × Value)) (h:Int) (x:Value):(layNew t es h x).2.1.led=t.led:=by
 unfold layNew
 split
 ·dsimp only
  unfold SetTable.orStandIn
  split <;> rfl
 ·rfl
section
variable {prog:Program} {w:World} {A:Around} {E:Value->Shared->Prop} {s:Shared}
def Tab (w:World) (es:Array (Int × Value)) (t:SetTable):Prop:=t.led=(!w.params.followText "set-order")/\(0 < es.size->t.plain=false)
def SetT (prog:Program) (w:World) (h:Heap) (a:Addr) (S:Str->Bool) (n:Nat):Prop:=
 ∃ o es ep t,h.get? a=some o/\o.ExactSet/\o.data=.set es ep t/\ElemsOf (PySem.strKind prog w) es.toList/\(∀ k,S k=true ↔ ∃ e ∈ es.toList,(PySem.strKind prog w).is k e.2=true) /\
  es.size < scanBound/\t.fits es.size=true/\es.size=n/\Tab w es t
theorem setT_add {a:Addr} {S:Str->Bool} {n:Nat} {k:Str} {tk:Tok} {Q:Bool->Shared->Prop} (hS:SetT prog w s.heap a S n) (room:n + 1 < scanBound)
  (h:∀ h',Heap.SameBut a s.heap h'->SetT prog w h' a (fun k'=>S k' || decide (k'=k)) (if S k then n else n + 1)->Q (!S k) { s with heap:=h' }) :
  wpAny (model prog w) A (setAddHashed a (.str k tk) ((PySem.strKind prog w).hash k)) Q E s:=by
 obtain ⟨o,es,ep,t,ho,ex,hd,el,mem,few,fit,hn,tab⟩:=hS
 have is:(PySem.strKind prog w).is k (.str k tk)=true:=by simp [PySem.strKind,Value.isStrOf]
 have sc:(Value.str k tk).scannable=true:=rfl
 have few1:es.size + 1 < scanBound:=by (first|lia|omega)
 unfold setAddHashed setAddHashedIn
 refine wpAny_holding (wpAny_bind (wpAny_setState_of ho hd fit ?_))
 dsimp only
 rw [if_pos (byScan_of sc few el)]
 unfold setAddByScan
 refine wpAny_bind (wpAny_bind (wpAny_rule (wpAny_bind (wpAny_setScan_of is ho hd fit el ?_))))
 cases hr:List.findIdx? (fun e=>(PySem.strKind prog w).is k e.2) es.toList with
 | some j=>
  obtain ⟨hj,pj,_⟩:=List.findIdx?_eq_some_iff_getElem.mp hr
  have there:S k=true:=(mem k).mpr ⟨es.toList[j],List.getElem_mem hj,pj⟩
  refine wpAny_pure (wpAny_pure ?_)
  have q:=h s.heap (Heap.SameBut.refl a s.heap) ⟨o,es,ep,t,ho,ex,hd,el,fun k'=>?_,few,fit,by rw [there]; exact hn,tab⟩
  ·rw [there] at q; exact q
  ·rw [Bool.or_eq_true,decide_eq_true_eq,<-mem k']
   exact ⟨fun z=>z.elim id fun e=>e ▸ there,.inl⟩
 | none=>
  have gone:S k=false:=by
   cases z:S k with
   | false=>rfl
   | true=>
    obtain ⟨e,he,hp⟩:=(mem k).mp z
    have:=List.findIdx?_eq_none_iff.mp hr e he
    rw [hp] at this
    cases this
  dsimp only
  have pm:=layNew_perm t es ((PySem.strKind prog w).hash k) (.str k tk)
  have ft:=layNew_fits t es ((PySem.strKind prog w).hash k) (.str k tk)
  have ld:=lay_led t es ((PySem.strKind prog w).hash k) (.str k tk)
  generalize layNew t es ((PySem.strKind prog w).hash k) (.str k tk)=L at pm ft ld ⊢
  obtain ⟨es1,t1,dum,gv⟩:=L
  dsimp only at pm ft ld ⊢
  rw [Array.toList_push] at pm
  have el1:=(el.push is sc).perm pm
  have mem1:=mem_push_iff is mem pm
  have z1:es1.size=n + 1:=by rw [<-Array.length_toList,pm.length_eq,List.length_append,Array.length_toList,hn]; rfl
  have few2:es1.size < scanBound:=by (first|lia|omega)
  have fin:∀ (es2:Array (Int × Value)) (t2:SetTable) (h':Heap) (o':Obj) (ep':Nat),Heap.SameBut a s.heap h'->h'.get? a=some o'->o'.ExactSet->o'.data=.set es2 ep' t2->es2.toList.Perm es1.toList->t2.fits es2.size=true->t2.led=t.led->t2.plain=false->Q true { s with heap:=h' }:=by
   intro es2 t2 h' o' ep' sb g x d p f l pl
   have z2:es2.size=n + 1:=by rw [<-z1,<-Array.length_toList,p.length_eq,Array.length_toList]
   have q:=h h' sb ⟨o',es2,ep',t2,g,x,d,el1.perm p,fun k'=>(mem1 k').trans ⟨fun ⟨e,he,r⟩=>⟨e,p.mem_iff.mpr he,r⟩,fun ⟨e,he,r⟩=>⟨e,p.mem_iff.mp he,r⟩⟩,by (first|lia|omega),f,by rw [gone]; exact z2,l.trans tab.1,fun _=>pl⟩
   rw [gone] at q
   exact q
  have gw:∀ (b:Bool) {s₁:Shared} {R:Unit->Shared->Prop},R () s₁->wpAny (model prog w) A (match b with | true=>rule "set.scan.the-table-gave-way" | false=>pure ()) R E s₁:=fun b s₁ R q=>by cases b <;> first | exact wpAny_pure q | exact wpAny_rule q
  refine wpAny_bind (gw gv ?_)
  have main:∀ t2:SetTable,t2.fits es1.size=true->t2.led=t.led->t2.plain=false->wpAny (model prog w) A (do
    storeSet a es1 t2
    if (!dum && t2.tooFull)=true then do
      (match (relayAll t2 es1 (SetTable.grown es1.size)).2.2 with | true=>rule "set.scan.the-table-gave-way" | false=>pure ())
      storeSet a (relayAll t2 es1 (SetTable.grown es1.size)).1 (relayAll t2 es1 (SetTable.grown es1.size)).2.1
      pure (some true)
     else pure (some true)) (fun r s'=>r=some true/\Q true s') E s:=by
   intro t2 f2 l2 p2
   refine wpAny_bind (wpAny_storeSet_of ho hd ?_ (fits_of_scanBound few2))
   obtain ⟨g1,_⟩:=SetOf_store (knd:=PySem.strKind prog w) ho ex hd el1 mem1 few2 f2
   have sb1:=Heap.SameBut.update s.heap a (Obj.putSet es1 t2)
   split
   ·have pr:=relayAll_perm t2 es1 (SetTable.grown es1.size)
    have fr:=relayAll_fits t2 es1 (SetTable.grown es1.size)
    have lr:=relay_led t2 es1 (SetTable.grown es1.size)
    generalize relayAll t2 es1 (SetTable.grown es1.size)=R at pr fr lr ⊢
    obtain ⟨es2,t3,gv2⟩:=R
    dsimp only at pr fr lr ⊢
    have z2:es2.size=es1.size:=by rw [<-Array.length_toList,pr.length_eq,Array.length_toList]
    refine wpAny_bind (gw gv2 ?_)
    refine wpAny_bind (wpAny_storeSet_of g1 rfl ?_ (fits_of_scanBound (by rw [z2]; exact few2)))
    have g2:=Heap.get?_update_self (Obj.putSet es2 t3) g1 (by rw [putSet_of es2 t3 rfl]; rfl)
    rw [putSet_of es2 t3 rfl] at g2
    exact wpAny_pure ⟨rfl,fin es2 t3 _ _ _ (sb1.trans (Heap.SameBut.update _ a _)) g2 ex rfl pr fr (lr.1.trans l2) (lr.2 p2)⟩
   ·exact wpAny_pure ⟨rfl,fin es1 t2 _ _ _ sb1 g1 ex rfl (.refl _) f2 l2 p2⟩
  by_cases pl:t1.plain=true
  ·rw [if_pos pl]
   refine wpAny_bind ?_
   rw [hashByValue_scannable 8 sc]
   refine wpAny_pure ?_
   refine wpAny_mono (main { t1 with plain:=false } (SetTable.fits_plain_off ft) ld rfl) (fun r s' z=>?_) fun _ _ z=>z
   obtain ⟨rfl,z⟩:=z
   exact wpAny_pure z
  ·rw [if_neg pl]
   refine wpAny_bind (wpAny_pure ?_)
   refine wpAny_mono (main t1 ft ld (by simpa using pl)) (fun r s' z=>?_) fun _ _ z=>z
   obtain ⟨rfl,z⟩:=z
   exact wpAny_pure z
end
end L2
namespace L2
open PySem PySem.Spec PyProof.Rows
section
variable {prog:Program} {w:World} {A:Around} {R:Result->Shared->Prop} {I:Addr} {fp wr:List Addr} {G:Array GenState->Array GenState->Prop} {n:Nat} {P:Nat->Value->Prop} {St:Nat->Shared->Prop}
theorem SetT.kept {h h':Heap} {a:Addr} {S:Str->Bool} {n:Nat} (hS:SetT prog w h a S n) (k:∀ o,h.get? a=some o->h'.get? a=some o):SetT prog w h' a S n:=by
 obtain ⟨o,es,ep,t,ho,r⟩:=hS
 exact ⟨o,es,ep,t,k _ ho,r⟩
theorem SetT.as {h:Heap} {a:Addr} {S S':Str->Bool} {n n':Nat} (hS:SetT prog w h a S n) (e:∀ k,S' k=S k) (en:n'=n):SetT prog w h a S' n':=by
 subst en
 have:S'=S:=funext e
 rw [this]
 exact hS
theorem setT_loop (W:WalksS prog w A.in1 I fp wr G n P St) (D:Addr) (hD:D ∉ fp) (val:Nat->Str) (hv:∀ i v,P i v->∃ tk,v=.str (val i) tk) (few:n + 1 < scanBound) :
  ∀ (k i:Nat) (s:Shared),n - i=k->i<=n->St i s->SetT prog w s.heap D (fun k'=>(met val i).any (· == k')) (met val i).length ->
   (∀ s',Moved (D :: wr) G s s'->SetT prog w s'.heap D (fun k'=>(met val n).any (· == k')) (met val n).length->R (.ok (.ret .none)) s') ->
   codeAny (model prog w) A (.builtin "set.update.loop" ⟨[.ref D,.ref I],[]⟩) R s:=by
 have hw:D ∉ wr:=fun z=>hD (W.sub _ z)
 have up:∀ b ∈ wr,b ∈ D :: wr:=fun b z=>List.mem_cons_of_mem _ z
 intro k
 induction k with
 | zero=>
  intro i s hk hi st hS q
  have e:i=n:=by (first|lia|omega)
  subst e
  refine codeAny_builtin F.entry_set_update_loop ?_
  rw [Around.under_plainId F.plain_set_update_loop _]
  refine wpAny_bind (W.done s _ _ st fun s' m=>?_)
  exact wpAny_pure (q s' (m.mono up) (hS.kept fun o e=>m.heap D _ hw e))
 | succ k ih=>
  intro i s hk hi st hS q
  have lt:i < n:=by (first|lia|omega)
  refine codeAny_builtin F.entry_set_update_loop ?_
  rw [Around.under_plainId F.plain_set_update_loop _]
  refine wpAny_bind (W.item i s _ _ lt st fun v s' pv st' m=>?_)
  obtain ⟨tk,rfl⟩:=hv i v pv
  have hS':=hS.kept (h':=s'.heap) fun o e=>m.heap D _ hw e
  refine wpAny_bind (wpAny_holding ?_)
  unfold setAdd
  refine wpAny_holding ?_
  refine wpAny_bind ((PySem.strKind prog w).pyHash (k:=val i) (by simp [PySem.strKind,Value.isStrOf]) ?_)
  refine setT_add (s:={ s' with toks:=s'.toks + 1 }) hS' (by have:=met_length_le val i; (first|lia|omega)) fun h' sb hS2=>?_
  have nx:SetT prog w h' D (fun k'=>(met val (i + 1)).any (· == k')) (met val (i + 1)).length:=
   hS2.as (fun k'=>by rw [met_succ,stepK_any]) (by rw [met_succ,stepK_length])
  refine wpAny_pure ⟨plainId_quiet F.plain_set_update_loop _,ih (i + 1) _ (by (first|lia|omega)) lt (W.frame _ s' _ _ st' (Nat.le_succ _) fun b z o e=>?_) nx fun s'' m2 hS3=>?_⟩
  ·rw [sb.2 b fun y:b=D=>hD (y ▸ z)]
   exact e
  ·refine q s'' (Moved.trans W.gtrans ((m.mono up).then_heap (Nat.le_succ _) fun b o z e=>?_) m2) hS3
   rw [sb.2 b fun y:b=D=>z (y ▸ List.mem_cons_self)]
   exact e
end
section
variable {prog:Program} {w:World} {A:Around} {E:Value->Shared->Prop} {s:Shared}
theorem setT_new (a:Value) {Q₁:Value->Shared->Prop}
  (h:Q₁ (.ref s.heap.objs.size) { s with heap:=s.heap.push { cls:=.type "set",dict:=none,data:=.set #[] 0 (.fresh 0 0 (!w.params.followText "set-order")) } }) :
  codeAny (model prog w) A (.call (.builtin "set.__new__") ⟨[.type "set",a],[]⟩) (wants Q₁ E) s:=by
 refine codeAny_of_tree ?_
 show wpAny _ A.in1 (checkBuiltinCall "set.__new__" ⟨[.type "set",a],[]⟩ >>= fun _=>again (.builtin "set.__new__" ⟨[.type "set",a],[]⟩)) _ _ s
 refine wpAny_bind (wpAny_of_eq (F.newCall_set_1 a) (wpAny_pure ⟨plainId_quiet F.plain_set_new _,codeAny_builtin F.entry_set_new ?_⟩))
 rw [Around.under_plainId F.plain_set_new _]
 unfold Builtin.«set.__new__» Builtin.Frozenset.newClass
 have hsub:=sub_set_self
 obtain ⟨hp,g,d,tk,os⟩:=s
 dsimp only
 wp_walk
 refine wpAny_askSetting (wpAny_pure ?_)
 dsimp only
 simp only [newObj]
 refine wpAny_bind (wpAny_alloc (wpAny_pure ?_))
 exact wpAny_pure h
theorem setT_of {a:Addr} {T:String} {o:Obj} {oI:Obj} {items:Array Value} {val:Nat->Str} {St:Addr->Nat->Heap->Prop} {Q:Value->Shared->Prop} (hh:A.handled=none)
  (ho:s.heap.get? a=some o) (hc:o.cls=.type T) (hnd:(Value.type T == Value.type "dict")=false) (hs1:isSubtype (.type T) (.type "set")=pure false) (hs2:isSubtype (.type T) (.type "frozenset")=pure false)
  (hit:∀ (B:Around) (E':Value->Shared->Prop) (s1:Shared) (Q':Value->Shared->Prop),(∀ b o,s.heap.get? b=some o->s1.heap.get? b=some o)->Q' (.ref s1.heap.objs.size) { s1 with heap:=s1.heap.push oI }->wpAny (model prog w) B (pyIter (.ref a)) Q' E' s1)
  (hW:∀ (B:Around) (I:Addr),B.handled=none->a ≠ I->Walks prog w B I [I,a] [I] items.size (fun i v=>items[i]? = some v) (St I))
  (hst:∀ h:Heap,(∀ b o,s.heap.get? b=some o->h.get? b=some o)->St h.objs.size 0 (h.push oI))
  (hi:∀ (i:Nat) v,items[i]? = some v->∃ tk,v=.str (val i) tk) (few:items.size + 1 < scanBound)
  (h:∀ (h':Heap) (tk:Nat),SetT prog w h' s.heap.objs.size (fun k'=>(met val items.size).any (· == k')) (met val items.size).length ->
   (∀ b o,s.heap.get? b=some o->h'.get? b=some o)->Q (.ref s.heap.objs.size) { s with heap:=h',toks:=tk }) :
  wpAny (model prog w) A (call (.type "set") [.ref a]) Q E s:=by
 obtain ⟨c,tl,hmro⟩:=F.called_set.mro
 have hmade:=F.called_set.made
 have hsub:=F.called_set.sub
 refine wpAny_call (codeAny_of_tree ?_)
 show wpAny _ _ (callAny (.type "set") _) _ _ _
 refine wpAny_pure ⟨Code.quiet_builtin _ (by decide +kernel),codeAny_builtin F.entry_type_call ?_⟩
 rw [Around.under_plain (weight_type_call_type "set" [.ref a] []) rfl]
 have h1:=F.called_set.notType
 have h2:=F.called_set.canCreate
 have hct:=F.typeCall_set_1 (.ref a)
 repeat (any_goals (first | assumption | wp_step))
 obtain ⟨fr,efr⟩:∃ fr:Obj,fr = { cls:=.type "set",dict:=none,data:=.set #[] 0 (.fresh 0 0 (!w.params.followText "set-order")) }:=⟨_,rfl⟩
 refine codeAny_mono (setT_new (.ref a) (E:=E) (Q₁:=fun obj s₁=>obj=.ref s.heap.objs.size/\s₁ = { s with heap:=s.heap.push fr }) ⟨rfl,by rw [efr]⟩) fun r s₁ hr=>?_
 have gS:(s.heap.push fr).get? s.heap.objs.size=some fr:=Heap.get?_push_size _ (by rw [efr]; rfl)
 have cf:fr.cls=.type "set":=by rw [efr]
 have new:∀ h5:Heap,h5.get? s.heap.objs.size=some fr->SetT prog w h5 s.heap.objs.size (fun k'=>(met val 0).any (· == k')) (met val 0).length:=fun h5 g=>
  ⟨fr,#[],0,.fresh 0 0 (!w.params.followText "set-order"),g,by rw [efr]; exact ⟨rfl,rfl,rfl⟩,by rw [efr],fun e he=>by simp at he,fun k=>by simp [met],by decide,rfl,rfl,rfl,fun z=>by simp at z⟩
 cases r with
 | error e=>exact hr
 | ok fl=>
  cases fl with
  | ret obj=>
   obtain ⟨rfl,rfl⟩:=hr
   have hT:Shared.TypeIs { s with heap:=s.heap.push fr } (.ref s.heap.objs.size) "set":=⟨_,gS,cf⟩
   have hli:=F.called_set.init.lookup
   have hbi:=F.called_set.init.bind (.ref s.heap.objs.size)
   repeat (any_goals (first | assumption | wp_step))
   refine codeAny_mono (codeAny_call_builtin (R:=wants (fun r s₂=>r=.none/\∃ h' tk,s₂ = { s with heap:=h',toks:=tk } /\
     SetT prog w h' s.heap.objs.size (fun k'=>(met val items.size).any (· == k')) (met val items.size).length /\
     (∀ b o,s.heap.get? b=some o->h'.get? b=some o)) E) F.called_set.init.plain F.entry_set_init (check_set_init_1 hT ?_)) fun r₂ s₂ hr₂=>?_
   ·obtain ⟨ocls,odict,odata,oslots⟩:=o
    simp only at hc
    subst hc
    have lt:a < s.heap.objs.size:=Heap.lt_size ho
    have ho':(s.heap.push fr).get? a=some { cls:=.type T,dict:=odict,data:=odata,slots:=oslots }:=Heap.get?_push_of_some _ ho
    subst efr
    unfold Builtin.«set.__init__» noKeywords Builtin.Frozenset.updateFrom
    generalize hPI:pyIter=PI
    wp_walk
    subst hPI
    refine hit _ _ _ _ (fun b o e=>Heap.get?_push_of_some _ e) ?_
    refine wpAny_bind (wpAny_runValue ?_)
    have ne:a ≠ (s.heap.push { cls:=.type "set",dict:=none,data:=.set #[] 0 (.fresh 0 0 (!w.params.followText "set-order")) }).objs.size:=by
     rw [Heap.size_push]; exact Nat.ne_of_lt (Nat.lt_succ_of_lt lt)
    have nS:s.heap.objs.size ∉ [(s.heap.push { cls:=.type "set",dict:=none,data:=.set #[] 0 (.fresh 0 0 (!w.params.followText "set-order")) }).objs.size,a]:=by
     rw [Heap.size_push]; simp only [List.mem_cons,List.not_mem_nil,or_false,not_or]
     exact ⟨Nat.ne_of_lt (Nat.lt_succ_self _),Nat.ne_of_gt lt⟩
    refine setT_loop ((hW _ _ (by simp [hh]) ne).toS) s.heap.objs.size nS val hi few (items.size - 0) 0 _ (by (first|lia|omega)) (Nat.zero_le _) (hst _ fun b o e=>Heap.get?_push_of_some _ e) (new _ (Heap.get?_push_of_some _ gS)) ?_
    intro s' hm hS'
    obtain ⟨h',g',d',tk',os'⟩:=s'
    have eg:g'=s.gens:=hm.gens
    have ed:d'=s.drawn:=hm.drawn
    have eo:os'=s.os:=hm.os
    subst eg ed eo
    refine wpAny_pure ?_
    refine wpAny_pure ⟨rfl,h',tk',rfl,hS',fun b o e=>?_⟩
    have hb:=Heap.lt_size e
    have hb1:b ≠ s.heap.objs.size:=Nat.ne_of_lt hb
    have hb2:b ≠ (s.heap.push { cls:=.type "set",dict:=none,data:=.set #[] 0 (.fresh 0 0 (!w.params.followText "set-order")) }).objs.size:=by
     rw [Heap.size_push]; exact Nat.ne_of_lt (Nat.lt_succ_of_lt hb)
    exact hm.heap b o (by simp only [List.mem_cons,List.not_mem_nil,or_false,not_or]; exact ⟨hb1,hb2⟩) (Heap.get?_push_of_some _ (Heap.get?_push_of_some _ e))
   ·cases r₂ with
    | error e=>exact hr₂
    | ok fl₂=>
     cases fl₂ with
     | ret r=>
      obtain ⟨rfl,h',tk,rfl,hS',hk'⟩:=hr₂
      repeat (any_goals (first | assumption | wp_step))
      exact h _ _ hS' hk'
     | _=>exact hr₂.elim
  | _=>exact hr.elim
end
end L2
namespace L2
open PySem PySem.Spec PyProof.Rows
theorem entry_set_iter:entryFor table "set.__iter__"=some Builtin.«frozenset.__iter__»:=
 entryFor_alias (id':="frozenset.__iter__") (by kernel_rfl) rfl (by decide +kernel) (by kernel_rfl)
theorem entry_seti_next:entryFor table "set_iterator.__next__"=some Builtin.«set_iterator.__next__»:=entryFor_of_tree (by kernel_rfl)
theorem slot_seti_next:Slot "set_iterator" "__next__" "set_iterator.__next__":=
 .of (owner:="set_iterator") (n:="__next__") (by rw [typeLookup_type,builtinLookup_eq_fast]; kernel_rfl) (by decide +kernel) (by decide +kernel) (by decide +kernel)
  (by first | exact .inl (by decide +kernel) | exact .inr (by decide +kernel)) (by rw [isSubtype_type]; kernel_rfl)
theorem slot_seti_iter:Slot "set_iterator" "__iter__" "set_iterator.__iter__":=
 .of (owner:="set_iterator") (n:="__iter__") (by rw [typeLookup_type,builtinLookup_eq_fast]; kernel_rfl) (by decide +kernel) (by decide +kernel) (by decide +kernel)
  (by first | exact .inl (by decide +kernel) | exact .inr (by decide +kernel)) (by rw [isSubtype_type]; kernel_rfl)
theorem args_seti_next (a:Value):argsOk "set_iterator.__next__" ⟨[a],[]⟩:=by unfold argsOk; kernel_rfl
theorem args_seti_iter (a:Value):argsOk "set_iterator.__iter__" ⟨[a],[]⟩:=by unfold argsOk; kernel_rfl
theorem entry_seti_iter:entryFor table "set_iterator.__iter__"=some Builtin.«dict_keyiterator.__iter__»:=
 entryFor_alias (id':="dict_keyiterator.__iter__") (by kernel_rfl) (by first | rfl | decide +kernel | (unfold String.splitOn; simp +decide [String.splitOnAux])) (by decide +kernel) (by kernel_rfl)
section
variable {prog:Program} {w:World} {A:Around} {E:Value->Shared->Prop} {s:Shared}
def setIt (x:Value) (i:Int) (a:Addr) (n ep:Nat):Obj:={ cls:=.type "set_iterator",data:=.fields #[x,.int i 0,.ref a,.int n 0,.int ep 0] }
theorem seti_self {r a:Addr} {x:Value} {i:Int} {n ep:Nat} {Q:Value->Shared->Prop} (hr:s.heap.get? r=some (setIt x i a n ep)) (h:Q (.ref r) s):wpAny (model prog w) A (pyIter (.ref r)) Q E s:=by
 have hT:s.TypeIs (.ref r) "set_iterator":=⟨_,hr,rfl⟩
 refine wpAny_pyIter_slot hT slot_seti_iter (wpAny_call_entry slot_seti_iter hT entry_seti_iter ?_ (args_seti_iter _))
 show wpAny _ _ (ret (.ref r)) _ _ s
 exact wpAny_pure ⟨_,rfl,"set_iterator",_,hT,slot_seti_next.lookup,h⟩
def stepOf (w:World) (a:Addr) (es:Array (Int × Value)) (ep:Nat) (t:SetTable) (slot given:Nat):Option (Value × Nat):=
 if w.params.followText "set-order"=true then ((pickOrder (w.params.setOrder a ep) es)[given]?).map fun e=>(e.2,slot) else
 match es[SetTable.below t.place slot]?,t.place[SetTable.below t.place slot]? with
  | some (_,x),some j=>some (x,j + 1)
  | _,_=>none
theorem set_next {a:Addr} {o:Obj} {es:Array (Int × Value)} {ep:Nat} {t:SetTable} {slot given:Nat} {Q:Option (Value × Nat)->Shared->Prop} (ho:s.heap.get? a=some o) (hd:o.data=.set es ep t) (fit:t.fits es.size=true) (tab:Tab w es t)
  (few:w.params.followText "set-order"=false->es.size<=1) (h:Q (stepOf w a es ep t slot given) s):wpAny (model prog w) A (setNext a slot given ep) Q E s:=by
 unfold setNext
 refine wpAny_bind (wpAny_setState_of ho hd fit ?_)
 dsimp only
 unfold setsByText
 refine wpAny_bind (wpAny_bind (wpAny_askSetting (wpAny_pure ?_)))
 unfold stepOf at h
 show wpAny _ _ (if w.params.followText "set-order"=true then _ else _) _ _ _
 by_cases z:w.params.followText "set-order"=true
 ·rw [if_pos z] at h
  rw [if_pos z,if_neg (by simp)]
  unfold setWalk
  refine wpAny_bind (wpAny_bind (wpAny_setState_of ho hd fit ?_))
  dsimp only
  unfold setsByText
  refine wpAny_bind (wpAny_bind (wpAny_askSetting (wpAny_pure ?_)))
  show wpAny _ _ (if w.params.followText "set-order"=true then _ else _) _ _ _
  rw [if_pos z]
  refine wpAny_bind (wpAny_askSetting (wpAny_pure ?_))
  exact wpAny_pure h
 ·rw [if_neg z] at h
  rw [if_neg z]
  have z':w.params.followText "set-order"=false:=by simpa using z
  have sm:=few z'
  show wpAny _ _ (if (!t.plain && decide (es.size > 1))=true then _ else _) _ _ _
  rw [if_neg (by simp; (first|lia|omega))]
  refine wpAny_bind ?_
  show wpAny _ _ (if (!t.led && !es.isEmpty)=true then _ else _) _ _ _
  rw [if_neg (by rw [tab.1,z']; simp)]
  exact wpAny_pure (wpAny_pure h)
theorem seti_item {r a:Addr} {slot i:Nat} {o:Obj} {es:Array (Int × Value)} {ep:Nat} {t:SetTable} {x:Value} {nx:Nat} {Q:Option Value->Shared->Prop}
  (hr:s.heap.get? r=some (setIt (.int slot 0) i a es.size ep)) (ho:s.heap.get? a=some o) (hd:o.data=.set es ep t) (fit:t.fits es.size=true) (tab:Tab w es t) (few:w.params.followText "set-order"=false->es.size<=1)
  (hx:stepOf w a es ep t slot i=some (x,nx))
  (hQ:∀ h',h'.get? r=some (setIt (.int nx 0) (i + 1) a es.size ep)->Heap.SameBut r s.heap h'->Q (some x) { s with heap:=h' }) :
  wpAny (model prog w) A (pyNext (.ref r)) Q E s:=by
 have hT:s.TypeIs (.ref r) "set_iterator":=⟨_,hr,rfl⟩
 obtain ⟨hp,g,d,tk,os⟩:=s
 unfold pyNext
 refine wpAny_bind (wpAny_attempt (wpAny_callSpecial?_slot (name:=Str.ofString "__next__") hT slot_seti_next
  (wpAny_call_entry slot_seti_next hT entry_seti_next ?_ (args_seti_next _))))
 unfold Builtin.«set_iterator.__next__»
 unfold setIt at hr
 repeat (any_goals (first | assumption | (refine wpAny_setEntries_of ho hd fit ?_) | (refine set_next (given:=i) (slot:=slot) ho hd fit tab few ?_) | wp_step))
 rw [show ((ep:Nat):Int).toNat=ep by simp,hx]
 repeat (any_goals (first | assumption | wp_step))
 refine ⟨_,rfl,wpAny_pure (hQ _ ?_ ((Heap.SameBut.update ..).trans (Heap.SameBut.update ..)))⟩
 have e1:=Heap.get?_update_self (Obj.mapFields fun fs=>fs.setIfInBounds 0 (rawInt nx)) hr rfl
 have e2:=Heap.get?_update_self (Obj.mapFields fun fs=>fs.setIfInBounds 1 (rawInt (i + 1))) e1 rfl
 exact e2
theorem seti_end {r a:Addr} {slot i:Nat} {o:Obj} {es:Array (Int × Value)} {ep:Nat} {t:SetTable} {Q:Option Value->Shared->Prop} (hh:A.handled=none)
  (hr:s.heap.get? r=some (setIt (.int slot 0) i a es.size ep)) (ho:s.heap.get? a=some o) (hd:o.data=.set es ep t) (fit:t.fits es.size=true) (tab:Tab w es t) (few:w.params.followText "set-order"=false->es.size<=1)
  (hx:stepOf w a es ep t slot i=none)
  (hQ:∀ h',Heap.ExtBut r s.heap h'->Q none { s with heap:=h' }) :
  wpAny (model prog w) A (pyNext (.ref r)) Q E s:=by
 have hT:s.TypeIs (.ref r) "set_iterator":=⟨_,hr,rfl⟩
 obtain ⟨hp,g,d,tk,os⟩:=s
 unfold pyNext
 refine wpAny_bind (wpAny_attempt (wpAny_callSpecial?_slot (name:=Str.ofString "__next__") hT slot_seti_next
  (wpAny_call_entry slot_seti_next hT entry_seti_next ?_ (args_seti_next _))))
 unfold Builtin.«set_iterator.__next__»
 unfold setIt at hr
 repeat (any_goals (first | assumption | (refine wpAny_setEntries_of ho hd fit ?_) | (refine set_next (given:=i) (slot:=slot) ho hd fit tab few ?_) | wp_step))
 rw [show ((ep:Nat):Int).toNat=ep by simp,hx]
 repeat (any_goals (first | assumption | wp_step))
 simp only [raiseNew]
 refine wpAny_bind (wpAny_handled ?_)
 rw [show A.in1.handled=none from hh]
 refine wpAny_bind (wpAny_pure (wpAny_throw ?_))
 refine wpAny_bind (wpAny_isInstance (T:="StopIteration") (b:=true) ⟨_,Heap.get?_push_size _ rfl,rfl⟩ isSubtype_stop ?_)
 exact wpAny_pure (hQ _ fun b o hb e=>Heap.get?_push_of_some _ (Heap.get?_push_of_some _ ((Heap.SameBut.update ..).extBut b o hb e)))
end
end L2
namespace L2
open PySem PySem.Spec PyProof.Rows
section
variable {prog:Program} {w:World} {A:Around} {E:Value->Shared->Prop} {s:Shared}
def ordT (is:List Nat) (c:Nat):Obj:={ cls:=.type "tuple",data:=.seq (is.map fun (i:Nat)=>rawInt i).toArray c }
theorem setd_next {a:Addr} {o:Obj} {es:Array (Int × Value)} {ep:Nat} {t:SetTable} {j:Nat} {h:Int} {x:Value} {Q:Value->Shared->Prop} (ho:s.heap.get? a=some o) (hd:o.data=.set es ep t) (fit:t.fits es.size=true)
  (hx:es[j]? = some (h,x)) (q:Q x s):wpAny (model prog w) A (setNextDrawn a j ep) Q E s:=by
 unfold setNextDrawn
 refine wpAny_bind (wpAny_setState_of ho hd fit ?_)
 dsimp only
 rw [if_neg (by simp),hx]
 exact wpAny_pure q
theorem setd_item {r a p:Addr} {i c:Nat} {o:Obj} {es:Array (Int × Value)} {ep:Nat} {t:SetTable} {is:List Nat} {j:Nat} {h:Int} {x:Value} {Q:Option Value->Shared->Prop}
  (hr:s.heap.get? r=some (setIt (.ref p) i a es.size ep)) (hp:s.heap.get? p=some (ordT is c)) (ho:s.heap.get? a=some o) (hd:o.data=.set es ep t) (fit:t.fits es.size=true)
  (hj:is[i]? = some j) (hx:es[j]? = some (h,x))
  (hQ:∀ h',h'.get? r=some (setIt (.ref p) (i + 1) a es.size ep)->Heap.SameBut r s.heap h'->Q (some x) { s with heap:=h' }) :
  wpAny (model prog w) A (pyNext (.ref r)) Q E s:=by
 have hT:s.TypeIs (.ref r) "set_iterator":=⟨_,hr,rfl⟩
 have hj':((is.map fun (i:Nat)=>rawInt i).toArray)[i]? = some (.int j 0):=by simp [hj,rawInt]
 obtain ⟨hp,g,d,tk,os⟩:=s
 unfold pyNext
 refine wpAny_bind (wpAny_attempt (wpAny_callSpecial?_slot (name:=Str.ofString "__next__") hT slot_seti_next
  (wpAny_call_entry slot_seti_next hT entry_seti_next ?_ (args_seti_next _))))
 unfold Builtin.«set_iterator.__next__»
 unfold setIt at hr
 unfold ordT at hp
 repeat (any_goals (first | assumption | (refine wpAny_setEntries_of ho hd fit ?_) | wp_step))
 rw [show ((i:Nat):Int).toNat=i by simp,hj']
 dsimp only
 refine wpAny_bind (setd_next (h:=h) (x:=x) ho hd fit (by simpa using hx) ?_)
 repeat (any_goals (first | assumption | wp_step))
 refine ⟨_,rfl,wpAny_pure (hQ _ ?_ (Heap.SameBut.update ..))⟩
 exact Heap.get?_update_self (Obj.mapFields fun fs=>fs.setIfInBounds 1 (rawInt (i + 1))) hr rfl
theorem setd_end {r a p:Addr} {i c:Nat} {o:Obj} {es:Array (Int × Value)} {ep:Nat} {t:SetTable} {is:List Nat} {Q:Option Value->Shared->Prop} (hh:A.handled=none)
  (hr:s.heap.get? r=some (setIt (.ref p) i a es.size ep)) (hp:s.heap.get? p=some (ordT is c)) (ho:s.heap.get? a=some o) (hd:o.data=.set es ep t) (fit:t.fits es.size=true)
  (hj:is[i]? = none) (hQ:∀ h',Heap.ExtBut r s.heap h'->Q none { s with heap:=h' }) :
  wpAny (model prog w) A (pyNext (.ref r)) Q E s:=by
 have hT:s.TypeIs (.ref r) "set_iterator":=⟨_,hr,rfl⟩
 have hj':((is.map fun (i:Nat)=>rawInt i).toArray)[i]? = none:=by simpa using hj
 obtain ⟨hp,g,d,tk,os⟩:=s
 unfold pyNext
 refine wpAny_bind (wpAny_attempt (wpAny_callSpecial?_slot (name:=Str.ofString "__next__") hT slot_seti_next
  (wpAny_call_entry slot_seti_next hT entry_seti_next ?_ (args_seti_next _))))
 unfold Builtin.«set_iterator.__next__»
 unfold setIt at hr
 unfold ordT at hp
 repeat (any_goals (first | assumption | (refine wpAny_setEntries_of ho hd fit ?_) | wp_step))
 rw [show ((i:Nat):Int).toNat=i by simp,hj']
 repeat (any_goals (first | assumption | wp_step))
 simp only [raiseNew]
 refine wpAny_bind (wpAny_handled ?_)
 rw [show A.in1.handled=none from hh]
 refine wpAny_bind (wpAny_pure (wpAny_throw ?_))
 refine wpAny_bind (wpAny_isInstance (T:="StopIteration") (b:=true) ⟨_,Heap.get?_push_size _ rfl,rfl⟩ isSubtype_stop ?_)
 exact wpAny_pure (hQ _ fun b o hb e=>Heap.get?_push_of_some _ (Heap.get?_push_of_some _ ((Heap.SameBut.update ..).extBut b o hb ((Heap.SameBut.update ..).extBut b o hb e))))
theorem walk_plain (hh:A.handled=none) (I a:Addr) (ne:a ≠ I) {o:Obj} {es:Array (Int × Value)} {ep:Nat} {t:SetTable} (hd:o.data=.set es ep t) (fit:t.fits es.size=true) (tab:Tab w es t) (few:w.params.followText "set-order"=false->es.size<=1)
  (vs:List Value) (sl:Nat->Nat) (hs:∀ (i:Nat) (v:Value),vs[i]? = some v->stepOf w a es ep t (sl i) i=some (v,sl (i + 1))) (he:stepOf w a es ep t (sl vs.length) vs.length=none) :
  Walks prog w A I [I,a] [I] vs.length (fun i v=>vs[i]? = some v) (fun i h=>h.get? I=some (setIt (.int (sl i:Nat) 0) i a es.size ep)/\h.get? a=some o) where
 sub:=fun b hb=>by simp at hb; simp [hb]
 frame:=fun i h h' st k=>⟨k I (by simp) _ st.1,k a (by simp) _ st.2⟩
 item:=fun i s Q E hi st q=>by
  have e:vs[i]? = some vs[i]:=by simp [hi]
  refine seti_item st.1 st.2 hd fit tab few (hs i _ e) fun h' hr sb=>q _ h' s.toks e ⟨hr,?_⟩ fun b o hb z=>?_
  ·rw [sb.2 a ne]; exact st.2
  ·rw [sb.2 b (by simpa using hb)]; exact z
 done:=fun s Q E st q=>seti_end hh st.1 st.2 hd fit tab few he fun h' eb=>q h' s.toks fun b o hb z=>eb b o (by simpa using hb) z
 self:=fun i s Q E st q=>seti_self st.1 q
theorem walk_drawn (hh:A.handled=none) (I a p:Addr) (ne:a ≠ I) (np:p ≠ I) {o:Obj} {es:Array (Int × Value)} {ep c:Nat} {t:SetTable} (hd:o.data=.set es ep t) (fit:t.fits es.size=true)
  (is:List Nat) (vs:List Value) (hl:is.length=vs.length) (hs:∀ (i:Nat) (v:Value),vs[i]? = some v->∃ j h,is[i]? = some j/\es[j]? = some (h,v)) :
  Walks prog w A I [I,a,p] [I] vs.length (fun i v=>vs[i]? = some v) (fun i h=>h.get? I=some (setIt (.ref p) i a es.size ep)/\h.get? a=some o/\h.get? p=some (ordT is c)) where
 sub:=fun b hb=>by simp at hb; simp [hb]
 frame:=fun i h h' st k=>⟨k I (by simp) _ st.1,k a (by simp) _ st.2.1,k p (by simp) _ st.2.2⟩
 item:=fun i s Q E hi st q=>by
  have e:vs[i]? = some vs[i]:=by simp [hi]
  obtain ⟨j,h,e1,e2⟩:=hs i _ e
  refine setd_item st.1 st.2.2 st.2.1 hd fit e1 e2 fun h' hr sb=>q _ h' s.toks e ⟨hr,?_,?_⟩ fun b o hb z=>?_
  ·rw [sb.2 a ne]; exact st.2.1
  ·rw [sb.2 p np]; exact st.2.2
  ·rw [sb.2 b (by simpa using hb)]; exact z
 done:=fun s Q E st q=>setd_end hh st.1 st.2.2 st.2.1 hd fit (by simp [hl]) fun h' eb=>q h' s.toks fun b o hb z=>eb b o (by simpa using hb) z
 self:=fun i s Q E st q=>seti_self st.1 q
theorem erase_perm {α:Type} {xs:List α} {i:Nat} {x:α} (h:xs[i]? = some x):(x :: xs.eraseIdx i).Perm xs:=by
 induction xs generalizing i with
 | nil=>simp at h
 | cons y ys ih=>
  cases i with
  | zero=>simp at h; subst h; exact .refl _
  | succ i=>
   simp only [List.getElem?_cons_succ] at h
   exact (List.Perm.swap _ _ _).trans ((ih h).cons _)
theorem draw_order {α:Type}:∀ (n:Nat) (xs:List α) (s:Shared) (Q:List α->Shared->Prop),n=xs.length->(∀ ys dr,ys.Perm xs->Q ys { s with drawn:=dr })->wpAny (model prog w) A (drawOrder n xs) Q E s
 | 0,[],s,Q,_,h=>wpAny_pure (h [] s.drawn (.refl _))
 | n + 1,x :: xs,s,Q,hn,h=>by
  unfold drawOrder
  refine wpAny_bind ?_
  intro Γ p hΓ
  refine ⟨by simp,?_⟩
  have lt:w.draws .order (s.drawn.get .order) % (x :: xs).length < (x :: xs).length:=Nat.mod_lt _ (by simp)
  show wpAny (model prog w) A (match (x :: xs)[w.draws .order (s.drawn.get .order) % (x :: xs).length]? with
   | some y=>drawOrder n ((x :: xs).eraseIdx (w.draws .order (s.drawn.get .order) % (x :: xs).length)) >>= fun r=>pure (y :: r)
   | none=>unsupported "internal:drawOrder") Q E { s with drawn:=s.drawn.bump .order }
  generalize w.draws .order (s.drawn.get .order) % (x :: xs).length=i at lt
  have e:(x :: xs)[i]? = some (x :: xs)[i]:=by simp
  rw [e]
  refine wpAny_bind (draw_order n _ _ _ (by rw [List.length_eraseIdx]; simp only [lt,if_true]; (first|lia|omega)) fun ys dr pm=>?_)
  exact wpAny_pure (h _ dr ((pm.cons _).trans (erase_perm e)))
theorem pick_go {α:Type} (next:Nat->Nat):∀ (fuel k:Nat) (left:List α) (out:Array α),fuel=left.length->(pickOrder.go next fuel k left out).toList.Perm (out.toList ++ left)
 | 0,k,[],out,_=>by unfold pickOrder.go; simp
 | fuel + 1,k,x :: xs,out,h=>by
  unfold pickOrder.go
  have lt:next k % (x :: xs).length < (x :: xs).length:=Nat.mod_lt _ (by simp)
  generalize next k % (x :: xs).length=i at lt
  have e:(x :: xs)[i]? = some (x :: xs)[i]:=by simp
  rw [e]
  refine (pick_go next fuel (k + 1) _ _ (by rw [List.length_eraseIdx]; simp only [lt,if_true]; simp at h ⊢; (first|lia|omega))).trans ?_
  rw [Array.toList_push,List.append_assoc]
  exact (erase_perm e).append_left _
theorem pick_perm {α:Type} (next:Nat->Nat) (xs:Array α):(pickOrder next xs).toList.Perm xs.toList:=by
 unfold pickOrder
 simpa using pick_go next xs.size 0 xs.toList #[] (by simp)
end
end L2
namespace L2
open PySem PySem.Spec PyProof.Rows
theorem strs_all:∀ {vs:List Value},(∀ v ∈ vs,∃ x t,v=Value.str x t)->∃ ks,StrsAre vs ks
 | [],_=>⟨[],.nil⟩
 | v :: vs,h=>by
  obtain ⟨x,t,rfl⟩:=h v (by simp)
  obtain ⟨ks,r⟩:=strs_all fun u hu=>h u (List.mem_cons_of_mem _ hu)
  exact ⟨x :: ks,.cons x t r⟩
theorem strs_mem {P:Program} {w:World} {vs:List Value} {ks:List Str} (h:StrsAre vs ks) (k:Str):k ∈ ks ↔ ∃ v ∈ vs,(PySem.strKind P w).is k v=true:=by
 induction h with
 | nil=>simp
 | cons x t r ih=>
  rw [List.mem_cons,ih]
  constructor
  ·rintro (rfl | ⟨v,hv,e⟩)
   ·exact ⟨_,List.mem_cons_self,by simp [PySem.strKind,Value.isStrOf]⟩
   ·exact ⟨v,List.mem_cons_of_mem _ hv,e⟩
  ·rintro ⟨v,hv,e⟩
   rcases List.mem_cons.mp hv with rfl | hv
   ·refine .inl ?_
    have e':Value.isStrOf k (.str x t)=true:=e
    first | exact (eq_of_beq e').symm | exact eq_of_beq e' | exact of_decide_eq_true e' | exact (of_decide_eq_true e').symm
   ·exact .inr ⟨v,hv,e⟩
section
variable {prog:Program} {w:World} {A:Around} {E:Value->Shared->Prop} {s:Shared}
theorem set_drawn {a:Addr} {o:Obj} {es:Array (Int × Value)} {ep:Nat} {t:SetTable} {Q:Bool->Shared->Prop} (ho:s.heap.get? a=some o) (hd:o.data=.set es ep t) (fit:t.fits es.size=true)
  (h:Q (!w.params.followText "set-order" && (!t.plain && decide (es.size > 1))) s):wpAny (model prog w) A (setDrawn a) Q E s:=by
 unfold setDrawn
 refine wpAny_bind (wpAny_setState_of ho hd fit ?_)
 dsimp only
 unfold setsByText
 exact wpAny_bind (wpAny_bind (wpAny_askSetting (wpAny_pure (wpAny_pure h))))
theorem setT_iter {a:Addr} {S:Str->Bool} {n:Nat} {Q:Value->Shared->Prop} (hS:SetT prog w s.heap a S n)
  (h:∀ (h':Heap) (dr:Drawn) (I:Addr) (fp:List Addr) (vs:List Value) (ks:List Str) (St:Nat->Heap->Prop),(∀ b o,s.heap.get? b=some o->h'.get? b=some o)->s.heap.objs.size<=I->(∀ b ∈ fp,b=a\/s.heap.objs.size<=b) ->
   StrsAre vs ks->(∀ k,S k=true ↔ k ∈ ks)->ks.length=n->(∀ B:Around,B.handled=none->Walks prog w B I fp [I] vs.length (fun i v=>vs[i]? = some v) St)->St 0 h'->Q (.ref I) { s with heap:=h',drawn:=dr }) :
  wpAny (model prog w) A (pyIter (.ref a)) Q E s:=by
 obtain ⟨o,es,ep,t,ho,ex,hd,el,mem,few,fit,hn,tab⟩:=hS
 have lt:a < s.heap.objs.size:=Heap.lt_size ho
 have strE:∀ e ∈ es.toList,∃ x tk,e.2=Value.str x tk:=fun e he=>by
  obtain ⟨⟨k,hk,_⟩,_⟩:=el e he
  have hk':Value.isStrOf k e.2=true:=hk
  cases z:e.2 <;> rw [z] at hk' <;> first | exact ⟨_,_,rfl⟩ | (simp [Value.isStrOf] at hk')
 have tx:∀ vs:List Value,vs.Perm (es.toList.map (·.2))->∃ ks,StrsAre vs ks/\(∀ k,S k=true ↔ k ∈ ks)/\ks.length=n:=fun vs pm=>by
  obtain ⟨ks,r⟩:=strs_all (vs:=vs) fun v hv=>by
   obtain ⟨e,he,rfl⟩:=List.mem_map.mp (pm.mem_iff.mp hv)
   exact strE e he
  refine ⟨ks,r,fun k=>?_,by rw [<-r.length,pm.length_eq,List.length_map,Array.length_toList]; exact hn⟩
  rw [mem,strs_mem (P:=prog) (w:=w) r]
  constructor
  ·rintro ⟨e,he,z⟩
   exact ⟨e.2,pm.mem_iff.mpr (List.mem_map.mpr ⟨e,he,rfl⟩),z⟩
  ·rintro ⟨v,hv,z⟩
   obtain ⟨e,he,rfl⟩:=List.mem_map.mp (pm.mem_iff.mp hv)
   exact ⟨e,he,z⟩
 have hT:s.TypeIs (.ref a) "set":=⟨o,ho,ex.1⟩
 refine wpAny_pyIter_slot hT F.slot_set_iter (wpAny_call_entry F.slot_set_iter hT entry_set_iter ?_ (F.args_set_iter_1 _))
 unfold Builtin.«frozenset.__iter__» Builtin.Frozenset.slot0 slotArgs
 simp only [List.isEmpty_nil,Bool.not_true,Bool.false_eq_true,↓reduceIte,bind_assoc,List.length_nil,bne_self_eq_false]
 unfold Builtin.Frozenset.addrOf Builtin.Frozenset.sizeOf
 refine wpAny_bind (wpAny_pure ?_)
 try dsimp only
 refine wpAny_bind (wpAny_pure ?_)
 refine wpAny_bind (wpAny_bind (wpAny_setEntries_of ho hd fit (wpAny_pure ?_)))
 refine wpAny_bind (set_drawn ho hd fit ?_)
 by_cases z:(!w.params.followText "set-order" && (!t.plain && decide (es.size > 1)))=true
 ·rw [if_pos z]
  refine wpAny_bind (draw_order es.size (List.range es.size) _ _ (by rw [List.length_range]) fun is dr pm=>?_)
  refine wpAny_bind (wpAny_newTuple ?_ (by rw [List.length_map,pm.length_eq,List.length_range]; exact fits_of_scanBound few))
  refine wpAny_bind (wpAny_setEpoch_of (Heap.get?_push_of_some _ ho) hd fit ?_)
  refine wpAny_bind (wpAny_newObj_type (wpAny_pure ⟨_,rfl,"set_iterator",_,⟨_,Heap.get?_push_size _ rfl,rfl⟩,slot_seti_next.lookup,?_⟩))
  have rng:∀ j ∈ is,j < es.size:=fun j hj=>List.mem_range.mp (pm.mem_iff.mp hj)
  have pv:(is.map fun j=>((es[j]?).map (·.2)).getD Value.none).Perm (es.toList.map (·.2)):=by
   refine (pm.map _).trans ?_
   refine List.Perm.of_eq (List.ext_getElem (by simp) fun i h1 h2=>?_)
   have:i < es.size:=by simpa using h2
   simp [this]
  obtain ⟨ks,r1,r2,r3⟩:=tx _ pv
  refine h _ dr _ [(s.heap.push (ordT is 0)).objs.size,a,s.heap.objs.size] _ ks _ (fun b o e=>Heap.get?_push_of_some _ (Heap.get?_push_of_some _ e)) (by rw [size_push']; exact Nat.le_succ _) (fun b hb=>?_) r1 r2 r3
   (fun B hB=>walk_drawn hB _ a s.heap.objs.size (by rw [size_push']; exact Nat.ne_of_lt (Nat.lt_succ_of_lt lt)) (by rw [size_push']; exact Nat.ne_of_lt (Nat.lt_succ_self _)) hd fit is _ (by simp) fun i v e=>?_)
   ⟨Heap.get?_push_size _ rfl,Heap.get?_push_of_some _ (Heap.get?_push_of_some _ ho),Heap.get?_push_of_some _ (Heap.get?_push_size _ rfl)⟩
  ·simp only [List.mem_cons,List.not_mem_nil,or_false] at hb
   rcases hb with rfl | rfl | rfl
   ·exact .inr (by rw [size_push']; exact Nat.le_succ _)
   ·exact .inl rfl
   ·exact .inr (Nat.le_refl _)
  ·rw [List.getElem?_map] at e
   cases ej:is[i]? with
   | none=>rw [ej] at e; cases e
   | some j=>
    rw [ej] at e
    have hj:=rng j (List.mem_of_getElem? ej)
    have e5:es[j]? = some es[j]:=by simp [hj]
    simp only [Option.map_some,e5,Option.getD_some,Option.some.injEq] at e
    exact ⟨j,es[j].1,rfl,by rw [e5,<-e]⟩
 ·rw [if_neg z]
  refine wpAny_bind (wpAny_pure ?_)
  refine wpAny_bind (wpAny_setEpoch_of ho hd fit ?_)
  refine wpAny_bind (wpAny_newObj_type (wpAny_pure ⟨_,rfl,"set_iterator",_,⟨_,Heap.get?_push_size _ rfl,rfl⟩,slot_seti_next.lookup,?_⟩))
  have few1:w.params.followText "set-order"=false->es.size<=1:=fun q=>by
   rcases Nat.lt_or_ge 1 es.size with y | y
   ·rw [q,tab.2 (by (first|lia|omega))] at z
    simp [y] at z
   ·exact y
  have go:∀ (vs:List Value) (sl:Nat->Nat),sl 0=0->vs.Perm (es.toList.map (·.2))->(∀ (i:Nat) (v:Value),vs[i]? = some v->stepOf w a es ep t (sl i) i=some (v,sl (i + 1)))->stepOf w a es ep t (sl vs.length) vs.length=none ->
    Q (.ref s.heap.objs.size) { s with heap:=s.heap.push (setIt (rawInt 0) 0 a es.size ep) }:=fun vs sl s0 pm h1 h2=>by
   obtain ⟨ks,r1,r2,r3⟩:=tx _ pm
   refine h _ s.drawn _ [s.heap.objs.size,a] vs ks _ (fun b o e=>Heap.get?_push_of_some _ e) (Nat.le_refl _) (fun b hb=>?_) r1 r2 r3 (fun B hB=>walk_plain hB _ a (Nat.ne_of_lt lt) hd fit tab few1 vs sl h1 h2) ⟨?_,Heap.get?_push_of_some _ ho⟩
   ·simp only [List.mem_cons,List.not_mem_nil,or_false] at hb
    rcases hb with rfl | rfl
    ·exact .inr (Nat.le_refl _)
    ·exact .inl rfl
   ·rw [s0]; exact Heap.get?_push_size _ rfl
  by_cases ft:w.params.followText "set-order"=true
  ·refine go ((pickOrder (w.params.setOrder a ep) es).toList.map (·.2)) (fun _=>0) rfl ((pick_perm _ es).map _) (fun i v e=>?_) ?_
   ·unfold stepOf
    rw [if_pos ft]
    rw [List.getElem?_map,Array.getElem?_toList] at e
    cases y:(pickOrder (w.params.setOrder a ep) es)[i]? with
    | none=>rw [y] at e; cases e
    | some x=>rw [y] at e; cases e; rfl
   ·unfold stepOf
    rw [if_pos ft]
    simp
  ·have sm:=few1 (by simpa using ft)
   refine go (es.toList.map (·.2)) (fun i=>if i=0 then 0 else t.place.getD 0 0 + 1) rfl (.refl _) (fun i v e=>?_) ?_
   ·unfold stepOf
    rw [if_neg ft]
    have i0:i < es.size:=by
     have:=(List.getElem?_eq_some_iff.mp e).1
     simpa using this
    have z1:es.size=1:=by (first|lia|omega)
    have i1:i=0:=by (first|lia|omega)
    subst i1
    obtain ⟨x,rfl⟩:∃ x,es=#[x]:=⟨es[0],Array.ext (by simpa using z1) fun j a1 a2=>by
     have:j=0:=by (first|lia|omega)
     subst this; rfl⟩
    have pz:t.place.size=1:=by
     simp only [SetTable.fits,Bool.and_eq_true,beq_iff_eq] at fit
     exact fit.1
    obtain ⟨y,ey⟩:∃ y,t.place=#[y]:=⟨t.place[0],Array.ext (by simpa using pz) fun j a1 a2=>by
     have:j=0:=by (first|lia|omega)
     subst this; rfl⟩
    rw [ey]
    simp at e
    subst e
    rfl
   ·unfold stepOf
    rw [if_neg ft]
    rcases Nat.eq_zero_or_pos es.size with z0 | z0
    ·have:es=#[]:=Array.eq_empty_of_size_eq_zero z0
     subst this
     rfl
    ·have z1:es.size=1:=by (first|lia|omega)
     obtain ⟨x,rfl⟩:∃ x,es=#[x]:=⟨es[0],Array.ext (by simpa using z1) fun j a1 a2=>by
      have:j=0:=by (first|lia|omega)
      subst this; rfl⟩
     have pz:t.place.size=1:=by
      simp only [SetTable.fits,Bool.and_eq_true,beq_iff_eq] at fit
      exact fit.1
     obtain ⟨y,ey⟩:∃ y,t.place=#[y]:=⟨t.place[0],Array.ext (by simpa using pz) fun j a1 a2=>by
      have:j=0:=by (first|lia|omega)
      subst this; rfl⟩
     rw [ey]
     simp [SetTable.below,SetTable.below.go]
end
end L2
namespace L2
open PySem PySem.Spec PyProof.Rows
section
variable {prog:Program} {w:World} {A:Around} {E:Value->Shared->Prop} {s:Shared}
theorem set_hint {r:Addr} {Q:Bool->Shared->Prop} (hT:s.TypeIs (.ref r) "set") (h:∀ b,Q b s):wpAny (model prog w) A (Builtin.List.listLengthHint (.ref r)) Q E s:=by
 unfold Builtin.List.listLengthHint
 refine wpAny_bind (wpAny_specialOf hT PySem.F.slot_set_len.lookup ?_)
 generalize hid:("set.__len__":String)=id0
 wp_delta
 rw [show splitId id0=some ("set","__len__") from by subst hid; decide +kernel]
 subst hid
 refine wpAny_bind (wpAny_isInstance (T:="set") (b:=true) hT (by rw [isSubtype_type]; kernel_rfl) ?_)
 refine wpAny_ite_split (fun z=>absurd z (by decide)) (fun _=>?_)
 refine wpAny_ite_split (fun _=>?_) (fun z=>absurd (by decide +kernel) z)
 refine wpAny_bind (wpAny_typeOf hT ?_)
 exact wpAny_pure (h _)
theorem setT_collect {a:Addr} {S:Str->Bool} {n:Nat} {R:List Value->Shared->Prop} (hh:A.handled=none) (hS:SetT prog w s.heap a S n)
  (h:∀ (h':Heap) (tk:Nat) (dr:Drawn) (vs:List Value) (ks:List Str),(∀ b o,s.heap.get? b=some o->h'.get? b=some o)->StrsAre vs ks->(∀ k,S k=true ↔ k ∈ ks)->ks.length=n->R vs { s with heap:=h',toks:=tk,drawn:=dr }) :
  wpAny (model prog w) A (collect (.ref a)) R E s:=by
 have hn:n < scanBound:=by obtain ⟨o,es,ep,t,ho,ex,hd,el,mem,few,fit,hn,tab⟩:=hS; (first|lia|omega)
 have hn2:n<=sizeLine:=fits_of_scanBound hn
 have lt:a < s.heap.objs.size:=by obtain ⟨o,es,ep,t,ho,r⟩:=hS; exact Heap.lt_size ho
 unfold collect
 refine wpAny_bind (wpAny_runValue (codeAny_builtin entry_proto_collect' ?_))
 rw [Around.under_plainId PySem.F.plain_proto_collect _]
 show wpAny _ A.in1 (newList [] >>= fun l=>again (.builtin "list.__iadd__" ⟨[l,.ref a],[]⟩)) _ _ s
 refine wpAny_bind (wpAny_newObj_type ?_)
 refine wpAny_pure ⟨plainId_quiet PySem.F.plain_list_iadd _,codeAny_builtin entry_list_iadd' ?_⟩
 rw [Around.under_plainId PySem.F.plain_list_iadd _]
 have e1:(s.heap.push { cls:=.type "list",data:=.seq ([]:List Value).toArray }).get? s.heap.objs.size=some { cls:=.type "list",data:=.seq #[] }:=Heap.get?_push_size _ rfl
 show wpAny _ A.in1 (Builtin.List.listExtendWith (.ref s.heap.objs.size) (.ref a) (.ref s.heap.objs.size)) _ _ _
 have hS1:SetT prog w (s.heap.push { cls:=.type "list",data:=.seq ([]:List Value).toArray }) a S n:=hS.kept fun o e=>Heap.get?_push_of_some _ e
 unfold Builtin.List.listExtendWith
 have hT:Shared.TypeIs { s with heap:=s.heap.push { cls:=.type "list",data:=.seq ([]:List Value).toArray } } (.ref a) "set":=by
  obtain ⟨o,es,ep,t,ho,ex,r⟩:=hS1
  exact ⟨o,ho,ex.1⟩
 refine wpAny_bind (wpAny_typeOf hT ?_)
 have e2:Builtin.List.listSameRef (.ref s.heap.objs.size) (.ref a)=false:=by simp [Builtin.List.listSameRef,Nat.ne_of_gt lt]
 have e3:(Value.type "set" == Value.type "list")=false:=by decide
 have e4:(Value.type "set" == Value.type "tuple")=false:=by decide
 simp only [e2,e3,e4,Bool.or_false,Bool.false_eq_true,if_false]
 refine wpAny_bind (setT_iter hS1 fun h1 dr I fp vs ks St kk hI hfp sv mem len hW st=>?_)
 have k1:∀ b o,s.heap.get? b=some o->h1.get? b=some o:=fun b o e=>kk b o (Heap.get?_push_of_some _ e)
 have eS:=kk _ _ e1
 have hT1:Shared.TypeIs { s with heap:=h1,drawn:=dr } (.ref a) "set":=by
  obtain ⟨o,es,ep,t,ho,ex,r⟩:=hS
  exact ⟨o,k1 _ _ ho,ex.1⟩
 have szI:(s.heap.push { cls:=.type "list",data:=.seq ([]:List Value).toArray }).objs.size=s.heap.objs.size + 1:=size_push' ..
 have nf:s.heap.objs.size ∉ fp:=fun z=>by
  rcases hfp _ z with e | e
  ·exact absurd e (Nat.ne_of_gt lt)
  ·rw [szI] at e; exact absurd e (Nat.not_le_of_lt (Nat.lt_succ_self _))
 have vl:vs.length=n:=by rw [sv.length]; exact len
 have key:∀ (h2:Heap) (c tk:Nat),St 0 h2->(∀ b o,b ≠ s.heap.objs.size->h1.get? b=some o->h2.get? b=some o)->h2.get? s.heap.objs.size=some { cls:=.type "list",data:=.seq #[] c } ->
   codeAny (model prog w) A (.builtin "list.extend.loop" ⟨[.ref s.heap.objs.size,.ref I,.ref s.heap.objs.size],[]⟩) (fun (q:Result) (s':Shared)=>∃ (h':Heap) (tk:Nat) (acc:Array Value) (c':Nat),q=.ok (.ret (.ref s.heap.objs.size))/\s' = { s with heap:=h',toks:=tk,drawn:=dr } /\
    (∀ b o,s.heap.get? b=some o->h'.get? b=some o)/\h'.get? s.heap.objs.size=some { cls:=.type "list",dict:=none,data:=.seq acc c',slots:=#[] }/\ItemsOf (fun i v=>vs[i]? = some v) acc vs.length) { s with heap:=h2,toks:=tk,drawn:=dr }:=by
  intro h2 c tk st2 k2 g2
  refine codeAny_extend_loopS (hW _ (by simp [hh])).toS (by rw [vl]; exact hn2) s.heap.objs.size nf (.ref s.heap.objs.size) vs.length 0 _ #[] c rfl (Nat.zero_le _) st2 g2 (ItemsOf.nil _) fun s' acc c' m g' ia=>?_
  refine ⟨s'.heap,s'.toks,acc,c',rfl,?_,fun b o e=>?_,g',ia⟩
  ·rw [Moved.eq_with m]
  ·have lb:=Heap.lt_size e
   refine m.heap b o (fun z=>?_) (k2 b o (Nat.ne_of_lt lb) (k1 b o e))
   rcases List.mem_cons.mp z with y | y
   ·exact Nat.ne_of_lt lb y
   ·rw [List.mem_singleton.mp y] at lb
    rw [szI] at hI
    exact absurd lb (Nat.not_lt_of_le (Nat.le_of_succ_le hI))
 refine wpAny_mono (Q:=fun fin s'=>match fin with | .done f=>False | .again c'=>c'.quiet=true/\codeAny (model prog w) A c' (fun (q:Result) (s':Shared)=>∃ (h':Heap) (tk:Nat) (acc:Array Value) (c':Nat),q=.ok (.ret (.ref s.heap.objs.size))/\s' = { s with heap:=h',toks:=tk,drawn:=dr } /\
    (∀ b o,s.heap.get? b=some o->h'.get? b=some o)/\h'.get? s.heap.objs.size=some { cls:=.type "list",dict:=none,data:=.seq acc c',slots:=#[] }/\ItemsOf (fun i v=>vs[i]? = some v) acc vs.length) s') (E:=fun _ _=>False) ?_ (fun fin s' x=>?_) fun e s' x=>x.elim
 ·refine wpAny_bind (wpAny_holding (set_hint hT1 fun b=>?_))
  refine wpAny_ite_split (fun _=>?_) (fun _=>wpAny_pure ⟨plainId_quiet PySem.F.plain_extend_loop _,key _ _ _ st (fun b o _ e=>e) eS⟩)
  refine wpAny_bind (wpAny_rule ?_)
  refine wpAny_bind ?_
  show wpAny _ _ (updateSeq s.heap.objs.size (·.push .none) >>= fun _=>updateSeq s.heap.objs.size (·.pop)) _ _ _
  refine wpAny_bind (wpAny_updateSeq eS rfl ?_)
  have eS2:=Heap.get?_update_self (Obj.mapSeq (·.push Value.none)) eS rfl
  refine wpAny_updateSeq (hz:=by seq_fits) eS2 rfl ?_
  have eS3:=Heap.get?_update_self (Obj.mapSeq (·.pop)) eS2 rfl
  have oth:∀ b o,b ≠ s.heap.objs.size->h1.get? b=some o->((h1.update s.heap.objs.size (Obj.mapSeq (·.push Value.none))).update s.heap.objs.size (Obj.mapSeq (·.pop))).get? b=some o:=fun b o hb e=>
   (Heap.get?_update_other _ _ (Ne.symm hb)).trans ((Heap.get?_update_other _ _ (Ne.symm hb)).trans e)
  refine wpAny_pure ⟨plainId_quiet PySem.F.plain_extend_loop _,key _ _ _ ?_ oth eS3⟩
  exact (hW A (by simp [hh])).frame 0 _ _ st fun b hb o e=>oth b o (fun z=>nf (z ▸ hb)) e
 ·cases fin with
  | done f=>exact x.elim
  | again c₁=>
   refine ⟨x.1,codeAny_mono x.2 fun q s₂ y=>?_⟩
   obtain ⟨h',tk,acc,c',rfl,rfl,hk,hS',ia⟩:=y
   show wpAny _ A (load s.heap.objs.size >>= _) _ _ _
   refine wpAny_bind (wpAny_load hS' ?_)
   have:acc.toList=vs:=List.ext_getElem (by rw [Array.length_toList]; exact ia.1) fun i h1 h2=>by
    have h3:i < acc.size:=by simpa using h1
    have this:vs[i]? = some acc[i]:=ia.2 i acc[i] (by simp [h3])
    rw [List.getElem?_eq_getElem h2] at this
    simpa using (Option.some.inj this).symm
   refine wpAny_pure ?_
   have q:=h h' tk dr vs ks hk sv mem len
   rw [<-this] at q
   exact q
theorem sorted_setT {a:Addr} {S:Str->Bool} {n:Nat} {Q:Value->Shared->Prop} (hh:A.handled=none) (hS:SetT prog w s.heap a S n) (h64:n < 64)
  (h:∀ (h':Heap) (tk:Nat) (dr:Drawn) (l:Addr) (us:List Value) (e:Nat) (ss ks:List Str),(∀ b o,s.heap.get? b=some o->h'.get? b=some o)->s.heap.get? l=none->h'.get? l=some (seqObj "list" us.toArray e)->StrsAre us ss->ss.Perm ks->sortedS ss=true ->
   (∀ k,S k=true ↔ k ∈ ks)->ks.length=n->Q (.ref l) { s with heap:=h',toks:=tk,drawn:=dr }) :
  wpAny (model prog w) A (call (.builtin "sorted") [.ref a]) Q E s:=by
 refine Calls.call_function_entry kind_sorted plain_sorted entry_sorted (args_sorted1 _) ?_
 unfold Builtin.«sorted»
 refine wpAny_bind (m:=checkCount "sorted" 1 1 _) (wpAny_pure ?_)
 refine wpAny_bind (setT_collect (A:=A.in1) hh hS fun h' tk dr vs ks hk sv mem len=>?_)
 have hl:vs.length=n:=by rw [sv.length]; exact len
 refine wpAny_bind (wpAny_newList ?_ (Nat.le_trans (show vs.length<=64 by (first|lia|omega)) (by decide)))
 have g:(h'.push (seqObj "list" vs.toArray 0)).get? h'.objs.size=some (seqObj "list" vs.toArray 0):=Heap.get?_push_size _ rfl
 show wpAny _ _ _ _ _ { s with heap:=h'.push (seqObj "list" vs.toArray 0),toks:=tk,drawn:=dr }
 refine wpAny_bind (wpAny_holding (wpAny_call_entry slot_list_sort ⟨_,g,rfl⟩ entry_list_sort (list_sort_treeK strKind_oneLt (s:={ s with heap:=h'.push (seqObj "list" vs.toArray 0),toks:=tk,drawn:=dr }) g sv.keysOf (fun v₁ v₂ rest e=>keyKind_strs (by rw [<-e]; exact sv)) (by rw [hl]; exact h64) fun st' a1 a2=>⟨_,rfl,?_⟩) (args_list_sort _)))
 refine wpAny_pure ⟨_,rfl,?_⟩
 obtain ⟨ss,b1,b2,b3⟩:=sorted_out_str sv a1 a2
 obtain ⟨e,he⟩:=sortedHeap_at (out:=(arrOf st').map (·.2)) g
 refine h _ tk dr h'.objs.size ((arrOf st').map (·.2)).toList e ss ks (fun b o q=>?_) ?_ (by rw [Array.toArray_toList]; exact he) b1 b2 b3 mem len
 ·have q':=hk b o q
  have lt:=Heap.lt_size q'
  rw [sortedHeap_old (Nat.ne_of_lt lt) (by rw [size_push']; exact Nat.lt_succ_of_lt lt)]
  exact Heap.get?_push_of_some _ q'
 ·cases z:s.heap.get? h'.objs.size with
  | none=>rfl
  | some o=>exact absurd (Heap.lt_size (hk _ _ z)) (Nat.lt_irrefl _)
end
end L2
namespace L2
open PySem PySem.Spec PyProof.Rows
def SetW (P:Program) (w:World) (a:Addr) (S:Str->Bool) (n:Nat):HO:=.ext fun h=>SetT P w h a S n
theorem sub_tuple_set:isSubtype (.type "tuple") (.type "set")=pure false:=by rw [isSubtype_type]; kernel_rfl
theorem sub_tuple_frozenset:isSubtype (.type "tuple") (.type "frozenset")=pure false:=by rw [isSubtype_type]; kernel_rfl
def setS (P:Program) (w:World) (a:Addr) (ss:List Str):HO:=SetW P w a (fun k=>(ss.foldl step_dedup []).any (· == k)) (ss.foldl step_dedup []).length
theorem setW_ok {X:Cx} {pins:List (Addr × Obj)} {σ:St} {H:Hp} {s:Shared} (I:Inv X pins σ H s) {h':Heap} {tk:Nat} {ss:List Str} (hS:SetT X.prog X.w h' s.heap.objs.size (fun k=>(ss.foldl step_dedup []).any (· == k)) (ss.foldl step_dedup []).length)
  (kk:∀ b o,s.heap.get? b=some o->h'.get? b=some o):Inv X pins σ (upd H s.heap.objs.size (setS X.prog X.w s.heap.objs.size ss)) { s with heap:=h',toks:=tk }:=by
 obtain ⟨oS,e1,e2,e3,hoS,rest⟩:=id hS
 refine I.laid (a:=s.heap.objs.size) (o:=setS X.prog X.w s.heap.objs.size ss) (t':=tk) kk (Nat.le_refl _) ⟨hS,⟨_,hoS⟩,fun h1 h2 z st=>?_⟩
 exact z.kept fun o e=>st _ e
theorem call_set_of (K:PySem.W.Frag) {X:Cx} (hK:X.K=K) (hc:X.calm=true):CallR X (.type "set") (fun xs H Q=>∃ (a:Addr) (ss:List Str),xs=[.ref a]/\(SqL K H a (ss.map V.str)\/SqT K H a (ss.map V.str))/\ss.length<=1000 /\
  ∀ D,H D=none->Q (.ref D) (upd H D (setS X.prog X.w D ss))):=by
 subst hK
 intro pins s σ H xs us Q I r h
 obtain ⟨a,ss,rfl,ha,hl,q⟩:=h
 obtain ⟨u,rfl,ru⟩:=vals1 r
 cases ru
 have txt:∀ its:List Value,Vals (ss.map V.str) its->∀ (i:Nat) v,its.toArray[i]? = some v->∃ tk,v=.str (ss.getD i (Str.ofString "")) tk:=fun its rv i v e=>by
  have il:its.length=ss.length:=by rw [<-rv.length,List.length_map]
  have e':its[i]? = some v:=by simpa using e
  have hi:i < its.length:=(List.getElem?_eq_some_iff.mp e').1
  have e3:(ss.map V.str)[i]? = some (.str ss[i]):=by rw [List.getElem?_map,List.getElem?_eq_getElem (by (first|lia|omega))]; rfl
  obtain ⟨v',e4,r4⟩:=rv.get e3
  rw [e'] at e4
  cases e4
  obtain ⟨t,rfl⟩:=r4
  exact ⟨t,by simp [List.getD_eq_getElem?_getD,List.getElem?_eq_getElem (show i < ss.length by (first|lia|omega))]⟩
 have fin:∀ its:List Value,Vals (ss.map V.str) its->∀ (h':Heap) (tk:Nat),SetT X.prog X.w h' s.heap.objs.size (fun k'=>(met (fun i=>ss.getD i (Str.ofString "")) its.toArray.size).any (· == k')) (met (fun i=>ss.getD i (Str.ofString "")) its.toArray.size).length ->
   (∀ b o,s.heap.get? b=some o->h'.get? b=some o)->∃ v H',Inv X pins σ H' { s with heap:=h',toks:=tk }/\RelV v (.ref s.heap.objs.size)/\Q v H':=fun its rv h' tk hS kk=>by
  have es:its.toArray.size=ss.length:=by rw [List.size_toArray,<-rv.length,List.length_map]
  rw [es,met_list] at hS
  exact ⟨.ref s.heap.objs.size,_,setW_ok I hS kk,rfl,q _ (I.hok.fresh (Nat.le_refl _))⟩
 have bnd:∀ its:List Value,Vals (ss.map V.str) its->its.toArray.size + 1 < scanBound:=fun its rv=>by
  rw [List.size_toArray,<-rv.length,List.length_map]
  unfold scanBound
  (first|lia|omega)
 rcases ha with ha | ha
 ·obtain ⟨its,rv,pl,hz⟩:=I.list ha
  have il:=pl.isList
  obtain ⟨o,ho,hcl,n,hdat⟩:=id il
  refine setT_of (items:=its.toArray) (val:=fun i=>ss.getD i (Str.ofString "")) (St:=fun I' i h=>h.IsListIter I' a i/\h.IsList a its.toArray) (I.ok.hd hc) ho hcl (by decide) F.sub_list_set F.sub_list_frozenset
   (fun B E' s1 Q' k q'=>wpAny_pyIter_list ⟨o,k _ _ ho,hcl,n,hdat⟩ q') (fun B I' hB ne=>Walks.list hB I' a ne its.toArray) (fun h k=>⟨⟨_,Heap.get?_push_size _ rfl,rfl,rfl⟩,⟨o,Heap.get?_push_of_some _ (k _ _ ho),hcl,n,hdat⟩⟩) (txt its rv) (bnd its rv) fun h' tk hS kk=>?_
  exact fin its rv h' tk hS kk
 ·obtain ⟨its,rv,pl,hz⟩:=I.tuple ha
  obtain ⟨o,ho,hcl,n,hdat⟩:=id pl
  refine setT_of (items:=its.toArray) (val:=fun i=>ss.getD i (Str.ofString "")) (St:=fun I' i h=>h.IsTupleIter I' a i/\h.IsTuple a its.toArray) (I.ok.hd hc) ho hcl (by decide) sub_tuple_set sub_tuple_frozenset
   (fun B E' s1 Q' k q'=>wpAny_pyIter_tuple ⟨o,k _ _ ho,hcl,n,hdat⟩ q') (fun B I' hB ne=>Walks.tuple hB I' a ne its.toArray) (fun h k=>⟨⟨_,Heap.get?_push_size _ rfl,rfl,rfl⟩,⟨o,Heap.get?_push_of_some _ (k _ _ ho),hcl,n,hdat⟩⟩) (txt its rv) (bnd its rv) fun h' tk hS kk=>?_
  exact fin its rv h' tk hS kk
theorem dedupS_mem (k:Str):∀ (ss σ:List Str),k ∈ ss.foldl step_dedup σ ↔ k ∈ σ\/k ∈ ss
 | [],σ=>by simp
 | x :: xs,σ=>by
  rw [List.foldl_cons,dedupS_mem k xs]
  have:k ∈ step_dedup σ x ↔ k ∈ σ\/k=x:=by
   unfold step_dedup
   split
   ·rename_i h
    rw [List.any_eq_true] at h
    obtain ⟨y,hy,e⟩:=h
    have e:=eq_of_beq e
    subst e
    exact ⟨.inl,fun z=>z.elim id fun e=>e ▸ hy⟩
   ·simp
  rw [this,List.mem_cons]
  exact or_assoc
theorem dedupS_nodup:∀ (ss σ:List Str),σ.Nodup->(ss.foldl step_dedup σ).Nodup
 | [],σ,h=>h
 | x :: xs,σ,h=>by
  rw [List.foldl_cons]
  refine dedupS_nodup xs _ ?_
  unfold step_dedup
  split
  ·exact h
  ·rename_i hn
   refine List.nodup_append.mpr ⟨h,by simp,fun a ha b hb e=>hn ?_⟩
   rw [List.mem_singleton] at hb
   subst hb e
   exact List.any_eq_true.mpr ⟨_,ha,by simp⟩
theorem perm_sub:∀ {l m:List Str},l.Nodup->(∀ x ∈ l,x ∈ m)->∃ r,m.Perm (l ++ r)
 | [],m,_,_=>⟨m,.refl _⟩
 | x :: l,m,nd,h=>by
  rw [List.nodup_cons] at nd
  have p:=List.perm_cons_erase (h x (by simp))
  obtain ⟨r,pr⟩:=perm_sub (m:=m.erase x) nd.2 fun y hy=>(List.mem_erase_of_ne (fun e:y=x=>nd.1 (e ▸ hy))).mpr (h y (List.mem_cons_of_mem _ hy))
  exact ⟨r,p.trans (pr.cons _)⟩
theorem perm_len {l m:List Str} (nd:l.Nodup) (h:∀ x ∈ l,x ∈ m) (e:m.length=l.length):m.Perm l:=by
 obtain ⟨r,p⟩:=perm_sub nd h
 have:=p.length_eq
 rw [List.length_append] at this
 have:r=[]:=List.length_eq_zero_iff.mp (by (first|lia|omega))
 subst this
 simpa using p
theorem Inv.drew {X:Cx} {pins:List (Addr × Obj)} {σ:St} {H:Hp} {s:Shared} (I:Inv X pins σ H s) (dr:Drawn):Inv X pins σ H { s with drawn:=dr }:=
 ⟨I.ok,I.os,I.bare,I.base,I.loc,I.cell,I.free,I.freeC,I.pin,I.hok,I.len⟩
theorem call_sorted_set {X:Cx} (hc:X.calm=true):CallR X (.builtin "sorted") (fun xs H Q=>∃ (a:Addr) (ss:List Str),xs=[.ref a]/\H a=some (setS X.prog X.w a ss)/\ss.length < 64 /\
  ∀ (l:Addr) (ss':List Str),H l=none->ss'.Nodup->(∀ k,k ∈ ss' ↔ k ∈ ss)->sortedS ss'=true->Q (.ref l) (upd H l (.lst (ss'.map V.str)))):=by
 intro pins s σ H xs us Q I r h
 obtain ⟨a,ss,rfl,ha,h64,q⟩:=h
 obtain ⟨u,rfl,ru⟩:=vals1 r
 cases ru
 have hS:SetT X.prog X.w s.heap a (fun k=>(ss.foldl step_dedup []).any (· == k)) (ss.foldl step_dedup []).length:=(I.hok a _ ha).1
 have few:(ss.foldl step_dedup []).length<=ss.length:=by rw [<-met_list]; exact met_length_le _ _
 refine sorted_setT (I.ok.hd hc) hS (by (first|lia|omega)) fun h' tk dr l us e ss' ks k1 k2 k3 k4 k5 k6 k7 k8=>?_
 obtain ⟨m,hlm⟩:=id I.loc
 obtain ⟨oL,esL,epL,hoL,rL⟩:=id hlm.1
 have fl:H l=none:=by
  cases z:H l with
  | none=>rfl
  | some u=>
   obtain ⟨ob,e⟩:=ObjOk.there (I.hok l u z)
   rw [k2] at e
   cases e
 have mk:∀ k,k ∈ ks ↔ k ∈ ss:=fun k=>by
  rw [<-k7,List.any_eq_true]
  have:=dedupS_mem k ss []
  constructor
  ·rintro ⟨x,hx,e⟩
   have e:=eq_of_beq e
   subst e
   exact (this.mp hx).resolve_left (by simp)
  ·intro z
   exact ⟨k,this.mpr (.inr z),by simp⟩
 have pm:ks.Perm (ss.foldl step_dedup []):=perm_len (dedupS_nodup ss [] List.nodup_nil) (fun x hx=>(mk x).mpr (((dedupS_mem x ss []).mp hx).resolve_left (by simp))) k8
 have I2:=I.laidF (h2:=h') (D:=l) (o:=.lst (ss'.map V.str)) hlm ⟨oL,esL,epL,k1 _ _ hoL,rL⟩ (fun b ob _ q=>k1 b ob q) k2 (fun z=>by rw [z,hoL] at k2; cases k2)
  ⟨by rw [List.length_map,k5.length_eq,k8,sizeLine_eq]; (first|lia|omega),us,e,of_strs k4,k3⟩
 exact ⟨.ref l,_,(I2.kept (t':=tk) fun b u q=>q).drew dr,rfl,q l ss' fl (k5.nodup_iff.mpr (pm.nodup_iff.mpr (dedupS_nodup ss [] List.nodup_nil))) (fun k=>k5.mem_iff.trans (mk k)) k6⟩
end L2
namespace L2
open PySem PySem.W PyProof.Rows
section
variable {prog:Program} {w:World} {A:Around} {E:Value->Shared->Prop} {s:Shared} {κ:SortKind} {lt:Keyed->Keyed->Bool} {a0:Array Keyed}
end
end L2
namespace L2
open PySem PySem.Spec PyProof.Rows
section
variable {prog:Program} {w:World} {A:Around} {E:Value->Shared->Prop} {s:Shared}
end
end L2
namespace L2
open PySem PySem.Spec PyProof.Rows
structure Fn (K:PySem.W.Frag) (mg:Str->Option Value) (nm:Str) (st:Stmt) (ps:List Str) (f:Addr) (fd:FuncData):Prop where
 F:Fun K nm nm st f fd
 mg:mg nm=some (.ref f)
 b:Binds K fd ps []
end L2
namespace L2
open PySem PySem.Spec PyProof.Rows
def iSeq (K:PySem.W.Frag) (tl:TE):TI:=fun σ H R=>tl σ H fun x H1=>∃ a,x=.ref a/\(((∃ xs,SqL K H1 a xs)/\R (Itl K a) H1)\/((∃ xs,SqT K H1 a xs)/\R (Itt K a) H1))
theorem pi_seq {X:Cx} {tg l:Expr} {tl:TE} (hl:PE X l tl):PI X tg l (iSeq X.K tl):=by
 intro pins s σ H R I h
 refine thn (hl pins s σ H _ I h) fun v s1 ⟨x,H1,I1,r1,q1⟩=>?_
 obtain ⟨a,e,q1⟩:=q1
 subst e
 cases r1
 have fp:∀ b ∈ [s1.heap.objs.size],FpOk X pins H1 b:=fun b hb=>by
  have e:b=s1.heap.objs.size:=by simpa using hb
  subst e
  exact I1.fpOk (Nat.le_refl _) (I1.hok.fresh (Nat.le_refl _))
 rcases q1 with ⟨⟨xs,hq⟩,q⟩ | ⟨⟨xs,hq⟩,q⟩
 ·obtain ⟨its,rv,p,hz⟩:=I1.list hq
  refine wpAny_pyIter_list p.isList ?_
  exact ⟨s1.heap.objs.size,[s1.heap.objs.size],_,_,H1,rfl,I1.kept (t':=s1.toks) fun b o e=>Heap.get?_push_of_some _ e,turn_list a _,⟨_,Heap.get?_push_size _ rfl,rfl,rfl⟩,fp,q⟩
 ·obtain ⟨its,rv,p,hz⟩:=I1.tuple hq
  refine wpAny_pyIter_tuple (show s1.heap.IsTuple a its.toArray from p) ?_
  exact ⟨s1.heap.objs.size,[s1.heap.objs.size],_,_,H1,rfl,I1.kept (t':=s1.toks) fun b o e=>Heap.get?_push_of_some _ e,turn_tuple a _,⟨_,Heap.get?_push_size _ rfl,rfl,rfl⟩,fp,q⟩
structure Over (J:It) (xs:List V) (S:Hp->Prop):Prop where
 go:∀ i H,S H->i < xs.length->J.go i H
 yld:∀ i H x H',S H->J.yld i H x H'->H'=H/\xs[i]? = some x
 stop:∀ H,S H->J.stop xs.length H
theorem over_list {K:PySem.W.Frag} {a:Addr} {xs:List V}:Over (Itl K a) xs (fun H=>SqL K H a xs):=
 ⟨fun i H q hlt=>⟨xs,xs[i],q,by simp [hlt]⟩,fun i H x H' q y=>⟨y.1,y.2 xs q⟩,fun H q=>⟨xs,q,Nat.le_refl _⟩⟩
theorem over_tup {K:PySem.W.Frag} {a:Addr} {xs:List V}:Over (Itt K a) xs (fun H=>SqT K H a xs):=
 ⟨fun i H q hlt=>⟨xs,xs[i],q,by simp [hlt]⟩,fun i H x H' q y=>⟨y.1,y.2 xs q⟩,fun H q=>⟨xs,q,Nat.le_refl _⟩⟩
theorem read_map {J:It} {xs:List V} {S:Hp->Prop} {g:TG} {te:TE} {H:Hp} {σ0:St} {R:Addr->Hp->Prop} (ov:Over J xs S) (I:Addr->Nat->St->Hp->List V->Prop) (big:xs.length < sizeLine)
  (h0:∀ D,H D=none->I D 0 σ0 (upd H D (.lst [])) [])
  (hs:∀ D i σ H' acc,H D=none->I D i σ H' acc->S H'/\H' D=some (.lst acc)/\acc.length=i)
  (turn:∀ D i σ H' acc x (B:St->V->Hp->Prop),H D=none->xs[i]? = some x->I D i σ H' acc->(∀ σ2 v H5,H5 D=some (.lst acc)->I D (i + 1) σ2 (upd H5 D (.lst (acc ++ [v]))) (acc ++ [v])->B σ2 v H5)->g x σ H' fun σ2 H3=>te σ2 H3 (B σ2))
  (fin:∀ D σ H' acc,H D=none->I D xs.length σ H' acc->R D H') :
  ∀ D,H D=none->∃ W:Nat->Nat->St->Hp->Prop,(∃ m,W 0 m σ0 (upd H D (.lst []))) /\
   ∀ i m σ' H',W i m σ' H'->(J.stop i H'/\R D H')\/(J.go i H'/\∀ x H2,J.yld i H' x H2->g x σ' H2 fun σ2 H3=>tYes σ2 H3 fun b H4=>
    if b=true then te σ2 H4 (fun v H5=>∃ acc,H5 D=some (.lst acc)/\acc.length < sizeLine/\∃ m',m' < m/\W (i + 1) m' σ2 (upd H5 D (.lst (acc ++ [v])))) else ∃ m',m' < m/\W (i + 1) m' σ2 H4):=by
 intro D hD
 refine ⟨fun i m σ H'=>m=xs.length - i/\i<=xs.length/\∃ acc,I D i σ H' acc,⟨xs.length,rfl,Nat.zero_le _,[],h0 D hD⟩,?_⟩
 rintro i m σ H' ⟨rfl,hi,acc,p⟩
 obtain ⟨s1,s2,s3⟩:=hs D i σ H' acc hD p
 by_cases hlt:i < xs.length
 ·refine .inr ⟨ov.go i H' s1 hlt,fun x H2 y=>?_⟩
  obtain ⟨rfl,ex⟩:=ov.yld i H' x H2 s1 y
  have e:∀ (F:St->V->Hp->Prop) (G:St->Hp->Prop),(fun (σ2:St) (H3:Hp)=>tYes σ2 H3 fun b H4=>if b=true then te σ2 H4 (F σ2) else G σ2 H4)=fun σ2 H3=>te σ2 H3 (F σ2):=by
   intro F G
   funext σ2 H3
   show (if true=true then te σ2 H3 (F σ2) else G σ2 H3)=_
   rw [if_pos rfl]
  rw [e (fun σ2 v H5=>∃ acc,H5 D=some (.lst acc)/\acc.length < sizeLine/\∃ m',m' < xs.length - i/\(m'=xs.length - (i + 1)/\i + 1<=xs.length/\∃ acc',I D (i + 1) σ2 (upd H5 D (.lst (acc ++ [v]))) acc')) (fun σ2 H4=>∃ m',m' < xs.length - i/\(m'=xs.length - (i + 1)/\i + 1<=xs.length/\∃ acc',I D (i + 1) σ2 H4 acc'))]
  refine turn D i σ H2 acc x _ hD ex p fun σ2 v H5 d5 p5=>?_
  exact ⟨acc,d5,by (first|lia|omega),xs.length - (i + 1),by (first|lia|omega),rfl,hlt,_,p5⟩
 ·have e:i=xs.length:=by (first|lia|omega)
  subst e
  exact .inl ⟨ov.stop H' s1,fin D σ H' acc hD p⟩
end L2
namespace L2
open PySem PySem.Spec PyProof.Rows
abbrev Row:=Str × Int
def rowD (u:Row):PyData:=.tuple [.str u.1,.int u.2]
end L2
namespace L2
open PySem PySem.Spec PyProof.Rows
theorem row_at {H:Hp} {v:V} {u:Row} (h:Dat H v (rowD u)):∃ t,v=.ref t/\H t=some (.tup [.str u.1,.int u.2]):=by
 unfold rowD at h
 cases h with
 | tup ha hd=>
  cases hd with
  | cons h1 r1=>
   cases r1 with
   | cons h2 r2=>
    cases r2
    cases h1
    cases h2
    exact ⟨_,rfl,ha⟩
theorem rowD_of {H:Hp} {t:Addr} {u:Row} (h:H t=some (.tup [.str u.1,.int u.2])):Dat H (.ref t) (rowD u):=.tup h (.cons (.str _) (.cons (.int _) .nil))
theorem row_dats {H2 H3:Hp} {vs:List V} {rs:List Row} (h:Dats H2 vs (rs.map rowD)) (ht:∀ b xs,H2 b=some (.tup xs)->H3 b=some (.tup xs)):Dats H3 vs (rs.map rowD):=by
 induction rs generalizing vs with
 | nil=>cases h; exact .nil
 | cons u rs ih=>
  cases h with
  | cons h1 r=>
   obtain ⟨t,rfl,e⟩:=row_at h1
   exact .cons (rowD_of (ht _ _ e)) (ih r)
theorem dats_row {H:Hp}:∀ {vs:List V} {rs:List Row} {i:Nat} {x:V},Dats H vs (rs.map rowD)->vs[i]? = some x->∃ u t,rs[i]? = some u/\x=.ref t/\H t=some (.tup [.str u.1,.int u.2])
 | _,[],i,x,.nil,e=>by simp at e
 | _,u :: rs,0,x,.cons h r,e=>by
  simp only [List.getElem?_cons_zero,Option.some.injEq] at e
  subst e
  obtain ⟨t,rfl,q⟩:=row_at h
  exact ⟨u,t,rfl,rfl,q⟩
 | _,u :: rs,i + 1,x,.cons h r,e=>by
  obtain ⟨u',t,a,b,c⟩:=dats_row r (by simpa using e)
  exact ⟨u',t,by simpa using a,b,c⟩
end L2
namespace L2
open PySem PySem.Spec PyProof.Rows
end L2
namespace L2
open PySem PySem.Spec PySem.W PyProof.Rows
end L2
namespace L2
open PySem PySem.Spec PyProof.Rows
end L2
namespace L2
open PySem PySem.Spec PyProof.Rows
end L2
namespace L2
open PySem PySem.Spec PyProof.Rows
end L2
namespace L2
open PySem PySem.Spec PyProof.Rows
end L2
namespace L2
open PySem PySem.Spec PyProof.Rows
end L2
namespace L2
open PySem PySem.Spec PyProof.Rows
section
variable {prog:Program} {w:World} {A:Around} {R:Result->Shared->Prop} {g0:Heap} {D it l:Addr} {vs:List Value} {ps:List (Str × V)}
end
section
variable {prog:Program} {w:World} {A:Around} {E:Value->Shared->Prop} {s:Shared}
end
end L2
namespace L2
open PySem PySem.Spec PyProof.Rows
end L2
namespace L2
open PySem PySem.Spec PyProof.Rows
end L2
namespace L2
open PySem PySem.Spec PyProof.Rows
section
variable {prog:Program} {w:World} {A:Around} {E:Value->Shared->Prop} {s:Shared}
end
section
variable {prog:Program} {w:World} {A:Around} {E:Value->Shared->Prop} {s:Shared}
end
end L2
namespace L2
open PySem PySem.Spec PyProof.Rows
end L2
namespace L2
open PySem PySem.Spec PyProof.Rows
end L2
namespace L2
open PySem PySem.Spec PyProof.Rows
end L2
namespace L2
open PySem PySem.Spec PyProof.Rows
end L2
namespace L2
open PySem PySem.Spec PyProof.Rows
end L2
namespace L2
open PySem PySem.Spec PyProof.Rows
end L2
namespace L2
open PySem PySem.Spec PyProof.Rows
end L2
namespace L2
open PySem PySem.Spec PyProof.Rows
end L2
namespace L2
open PySem PySem.Spec PyProof.Rows
end L2
namespace L2
open PySem PySem.Spec PyProof.Rows
end L2
namespace L2
open PySem PySem.Spec PyProof.Rows
end L2
namespace L2
open PySem PySem.Spec PyProof.Rows
end L2
namespace L2
open PySem PySem.Spec PyProof.Rows
end L2
namespace L2
open PySem PySem.Spec PyProof.Rows
end L2
namespace L2
open PySem
end L2
namespace L2
open PySem
end L2
namespace L2
open PySem PySem.Spec PyProof.Rows
section
variable {X:Cx} {pins:List (Addr × Obj)} {σ σ':St} {H H':Hp} {s2 s':Shared} {scope:Scope} {cl:List (Str × Addr)} {N:List Str} {fp:List Addr} {C D:Addr} {h₁ h':Heap} {t':Nat}
end
end L2
namespace L2
open PySem PySem.Spec PySem.W PyProof.Rows
end L2
namespace L2
open PySem PySem.Spec PyProof.Rows
end L2
namespace L2
open PySem PySem.Spec PyProof.Rows
theorem call_len_seqK (K:PySem.W.Frag) {X:Cx} (h:X.K=K):CallR X (.builtin "len") (fun xs H Q=>∃ p vs,xs=[V.ref p]/\(SqL K H p vs\/SqT K H p vs)/\Q (.int vs.length) H):=by subst h; exact call_len_seq
end L2
namespace L2
open PySem PySem.Spec PyProof.Rows
section
open PySem.SeqAt
open PySem.AutoSeq1 (wpAny_loadPart')
open PySem.MeetsSeq PySem.MeetsSeq2 PySem.MeetsSeq3
end
section
open PySem.SeqAt
open PySem.AutoSeq1 (wpAny_loadPart')
open PySem.MeetsSeq PySem.MeetsSeq2 PySem.MeetsSeq3
end
section
variable {prog:Program} {w:World} {A:Around} {R:Result->Shared->Prop} {I:Addr} {fp wr:List Addr} {n:Nat} {P:Nat->Value->Prop} {St:Nat->Heap->Prop} {g0:Heap}
end
section
variable {prog:Program} {w:World} {A:Around} {E:Value->Shared->Prop} {s:Shared}
end
section
variable {X:Cx} {pins:List (Addr × Obj)} {σ:St} {H:Hp} {s:Shared}
end
end L2
namespace L2
open PySem PySem.Spec PyProof.Rows
end L2
namespace L2
open PySem PySem.Spec PyProof.Rows
end L2
namespace L2
open PySem PySem.Spec PyProof.Rows
def tTru (K:PySem.W.Frag) (ta:TE):TT:=fun σ H Q=>ta σ H fun x H'=>∃ k,TruV K x H' k/\Q k H'
theorem pt_truthK (K:PySem.W.Frag) {X:Cx} (hK:X.K=K) {a:Expr} {ta:TE} (ha:PE X a ta) (he:∀ whole,isTrue a X.env whole=(do let v <- whole; standAt a.pos; holding [v] (truthy v))):PT X a (tTru K ta):=by subst hK; exact pt_truth ha he
end L2
namespace L2
open PySem PySem.Spec PyProof.Rows
end L2
namespace L2
open PySem PySem.Spec PyProof.Rows
section
variable {prog:Program} {w:World} {A:Around} {E:Value->Shared->Prop} {s:Shared}
end
theorem pe_bmK (K:PySem.W.Frag) {X:Cx} (hK:X.K=K) {o e:Expr} {es:List Expr} {to:TE} {t:TA} {name:Str} {apos cpos:Pos} {T id:String} {r:V->List V->Hp->VK->Prop} (pa:PlainAttrs T) (slot:Slot T name id) (hty:typeOf (.builtin id)=pure (.type "method_descriptor")) (hm:MtR X id r) (ho:PE X o to) (ha:PA X (e :: es) t)
  (hbase:attributeBase o name X.env (eval o X.env)=eval o X.env:=by rfl)
  (hfew:((backTo cpos (starEach (e :: es) X.env)).all (fun x=>!x.1) && (backToKw cpos (keywordEach [] X.env)).all (fun x=>x.1.isSome)
   && decide ((e :: es).length + ([]:List Keyword).length + (if ([]:List Keyword).isEmpty then 0 else 1) < 30))=true:=by rfl)
  (hline:(apos.endLine == cpos.line)=true:=by rfl) (hs:starEach (e :: es) X.env=(false,eval e X.env) :: starEach es X.env:=by rfl) (hplain:(backTo cpos (starEach es X.env)).any (·.1)=false:=by rfl) :
  PE X (.Call (.Attribute o name apos) (e :: es) [] cpos) (tBM K T r to t):=by subst hK; exact pe_bm pa slot hty hm ho ha hbase hfew hline hs hplain
end L2
namespace L2
open PySem PySem.Spec PyProof.Rows
end L2
namespace L2
open PySem PySem.Spec PyProof.Rows
theorem call_tuple_ofK (K:PySem.W.Frag) {X:Cx} (h:X.K=K):CallR X (.type "tuple") (fun xs H Q=>∃ p ys,xs=[.ref p]/\((SqL K H p ys/\∀ l,H l=none->Q (.ref l) (upd H l (.tup ys)))\/(SqT K H p ys/\Q (.ref p) H))):=by subst h; exact call_tuple_of
end L2
namespace L2
open PySem PySem.Spec PySem.W PyProof.Rows
end L2
namespace L2
open PySem PySem.Spec PySem.W PyProof.Rows
end L2
namespace L2
open PySem PySem.Spec PyProof.Rows
def Rising (l:List Str):Prop:=l.Pairwise fun a b=>a.cps.toList < b.cps.toList
theorem Rising.nodup {l:List Str} (h:Rising l):l.Nodup:=List.Pairwise.imp (fun {a b} z e=>by subst e; exact lt_irr _ z) h
theorem Rising.pw {l:List Str} (h:Rising l):l.Pairwise fun a b=>¬ b.cps.toList < a.cps.toList:=List.Pairwise.imp (fun {a b} z=>List.lt_asymm z) h
theorem rising_of {l:List Str} (h:l.Pairwise fun a b=>¬ b.cps.toList < a.cps.toList) (nd:l.Nodup):Rising l:=by
 induction l with
 | nil=>exact .nil
 | cons x l ih=>
  rw [List.pairwise_cons] at h
  rw [List.nodup_cons] at nd
  refine List.pairwise_cons.mpr ⟨fun y hy=>?_,ih h.2 nd.2⟩
  by_cases z:x.cps.toList < y.cps.toList
  ·exact z
  ·exact absurd (str_anti (h.1 y hy) z) (fun e=>nd.1 (e ▸ hy))
theorem rising_iff {ss ss':List Str} (nd:ss'.Nodup) (mem:∀ k,k ∈ ss' ↔ k ∈ ss) (srt:sortedS ss'=true):ss'=ss ↔ Rising ss:=
 ⟨fun e=>e ▸ rising_of (sorted_pw srt) nd,fun h=>sorted_eq (sorted_pw srt) h.pw (perm_of_mem nd h.nodup mem)⟩
def tyD:PyData->String
 | .none=>"NoneType"
 | .bool _=>"bool"
 | .int _=>"int"
 | .str _=>"str"
 | .list _=>"list"
 | .tuple _=>"tuple"
 | .dict _=>"dict"
theorem Dat.ty {K:PySem.W.Frag} {H:Hp} {v:V} {d:PyData} (h:Dat H v d):TyOf K H v (.type (tyD d)):=by
 cases h with
 | non=>exact .non
 | bl b=>exact .bl b
 | int i=>exact .int i
 | str x=>exact .str x
 | tup e _=>exact .tup e
 | lst e _=>exact .lst e
theorem Dat.notStr {K:PySem.W.Frag} {H:Hp} {v:V} {d:PyData} (h:Dat H v d) (n:∀ s,d ≠ .str s):NotStr K H v:=by
 refine ⟨_,h.ty,?_⟩
 cases d with
 | str s=>exact absurd rfl (n s)
 | _=>rfl
theorem eqv_strs:∀ (ss:List Str) (ds:List PyData),PyData.eqvAll (ss.map PyData.str) ds=true ↔ ds=ss.map PyData.str
 | [],[]=>by simp [PyData.eqvAll]
 | [],d :: ds=>by simp [PyData.eqvAll]
 | x :: ss,[]=>by simp [PyData.eqvAll]
 | x :: ss,d :: ds=>by
  rw [List.map_cons,PyData.eqvAll,Bool.and_eq_true,eqv_strs ss ds]
  constructor
  ·rintro ⟨h,rfl⟩
   cases d with
   | str y=>
    rw [PyData.eqv] at h
    rw [eq_of_beq h]
   | _=>rw [PyData.eqv] at h; cases h
  ·intro e
   injection e with e1 e2
   subst e1
   refine ⟨?_,e2⟩
   rw [PyData.eqv]
   simp
theorem eqv_list (ss:List Str) (ds:List PyData):PyData.eqv (.list (ss.map PyData.str)) (.list ds)=true ↔ ds=ss.map PyData.str:=by
 rw [PyData.eqv]; exact eqv_strs ss ds
theorem Dats.len {H:Hp}:∀ {xs:List V} {ds:List PyData},Dats H xs ds->xs.length=ds.length
 | _,_,.nil=>rfl
 | _,_,.cons _ r=>congrArg (· + 1) r.len
theorem Dats.at {H:Hp}:∀ {xs:List V} {ds:List PyData},Dats H xs ds->∀ {i:Nat} {v:V},xs[i]? = some v->∃ d,ds[i]? = some d/\Dat H v d
 | _,_,.nil,i,v,e=>by simp at e
 | _,_,.cons h r,0,v,e=>by
  simp only [List.getElem?_cons_zero,Option.some.injEq] at e
  subst e
  exact ⟨_,rfl,h⟩
 | _,_,.cons h r,i + 1,v,e=>by
  simp only [List.getElem?_cons_succ] at e
  obtain ⟨d,e1,e2⟩:=r.at e
  exact ⟨d,by simpa using e1,e2⟩
theorem Dats.txt {H:Hp}:∀ {xs:List V} {ss:List Str},Dats H xs (ss.map PyData.str)->xs=ss.map V.str
 | xs,[],h=>by cases h; rfl
 | xs,x :: ss,h=>by
  cases h with
  | cons h1 h2=>
   cases h1
   rw [h2.txt]
   rfl
def nameD:PyData->Bool
 | .str s=>nameB s
 | _=>false
theorem names_all:∀ {ds:List PyData},(ds.map nameD).all id=true->∃ ss:List Str,ds=ss.map PyData.str/\∀ s ∈ ss,nameB s=true
 | [],_=>⟨[],rfl,fun s hs=>nomatch hs⟩
 | d :: ds,h=>by
  rw [List.map_cons,List.all_cons,Bool.and_eq_true] at h
  obtain ⟨ss,rfl,hn⟩:=names_all h.2
  cases d with
  | str x=>exact ⟨x :: ss,rfl,fun s hs=>(List.mem_cons.mp hs).elim (fun e=>e ▸ h.1) (hn s)⟩
  | _=>exact absurd (show false=true from h.1) (by decide)
theorem all_names {ss:List Str} (h:∀ s ∈ ss,nameB s=true):((ss.map PyData.str).map nameD).all id=true:=by
 rw [List.map_map,List.all_map,List.all_eq_true]
 exact fun s hs=>h s hs
theorem str_inj {ss ss':List Str} (h:ss.map PyData.str=ss'.map PyData.str):ss=ss':=by
 induction ss generalizing ss' with
 | nil=>cases ss' with
  | nil=>rfl
  | cons _ _=>cases h
 | cons x ss ih=>cases ss' with
  | nil=>cases h
  | cons y ss'=>
   injection h with h1 h2
   injection h1 with h1
   rw [h1,ih h2]
def spRising (K:PySem.W.Frag):Sp:=fun vs H Q _=>∃ (t:Addr) (xs:List V) (ds:List PyData),vs=[.ref t]/\(H t=some (.lst xs)\/H t=some (.tup xs))/\Dats H xs ds/\(∀ s,PyData.str s ∈ ds->s.length<=1000)/\xs.length<=60 /\
 ∀ (b:Bool) (H':Hp),Same H H'->(b=true ↔ ∃ ss:List Str,ds=ss.map PyData.str/\(∀ s ∈ ss,nameB s=true)/\Rising ss)->Q (.bl b) H'
end L2
namespace HT
open PySem PySem.Spec PyProof.Rows
section
variable {prog:Program} {w:World} {A:Around} {E:Value->Shared->Prop} {s:Shared}
end
end HT
namespace L2
open PySem PySem.Spec PyProof.Rows
end L2
namespace L2
open PySem PySem.Spec PyProof.Rows
section
variable {X:Cx} {Φ:St->Hp->Prop} {a b:Expr} {pos:Pos} {n m:Nat}
end
section
variable {Φ:St->Hp->Prop} {n:Nat}
end
end L2
namespace L2
open PySem PySem.Spec PyProof.Rows
end L2
namespace L2
open PySem PySem.Builtin.Str PySem.StrLaws
def jn (y:List Nat):List (List Nat)->List Nat
 | []=>[]
 | [p]=>p
 | p :: q :: r=>p ++ (y ++ jn y (q :: r))
def offs (w:Nat):Nat->List (List Nat)->List Nat
 | _,[]=>[]
 | _,[_]=>[]
 | a,p :: q :: r=>(a + p.length) :: offs w (a + p.length + w) (q :: r)
theorem offs_ge (w:Nat):∀ (ps:List (List Nat)) (a o:Nat),o ∈ offs w a ps->a<=o
 | [],_,_,h=>by simp [offs] at h
 | [_],_,_,h=>by simp [offs] at h
 | p :: q :: r,a,o,h=>by
  rw [offs,List.mem_cons] at h
  rcases h with rfl | h
  ·(first|lia|omega)
  ·have:=offs_ge w (q :: r) _ o h
   (first|lia|omega)
theorem offs_gap (w:Nat):∀ (ps:List (List Nat)) (a:Nat),(offs w a ps).Pairwise fun o o'=>o + w<=o'
 | [],_=>.nil
 | [_],_=>.nil
 | p :: q :: r,a=>by
  rw [offs]
  exact List.pairwise_cons.mpr ⟨fun o h=>offs_ge w _ _ o h,offs_gap w (q :: r) _⟩
theorem pos_c {y ya yb:List Nat} {c:Nat} (hy:y=ya ++ c :: yb) (na:c ∉ ya) (nb:c ∉ yb):∀ (ps:List (List Nat)) (a i:Nat),(∀ p ∈ ps,c ∉ p)->((jn y ps)[i]? = some c ↔ ∃ o ∈ offs y.length a ps,a + i=o + ya.length)
 | [],a,i,_=>by simp [jn,offs]
 | [p],a,i,h=>by
  rw [jn,offs]
  constructor
  ·intro e; exact absurd (List.mem_of_getElem? e) (h p (by simp))
  ·rintro ⟨o,ho,_⟩; simp at ho
 | p :: q :: r,a,i,h=>by
  rw [jn,offs]
  have wl:y.length=ya.length + yb.length + 1:=by rw [hy,List.length_append,List.length_cons]; (first|lia|omega)
  have ih:=pos_c hy na nb (q :: r) (a + p.length + y.length) (i - p.length - y.length) fun z hz=>h z (List.mem_cons_of_mem _ hz)
  by_cases h1:i < p.length
  ·rw [List.getElem?_append_left h1]
   constructor
   ·intro e; exact absurd (List.mem_of_getElem? e) (h p (by simp))
   ·rintro ⟨o,ho,e⟩
    rcases List.mem_cons.mp ho with rfl | ho
    ·(first|lia|omega)
    ·have:=offs_ge _ _ _ _ ho; (first|lia|omega)
  ·rw [List.getElem?_append_right (by (first|lia|omega))]
   by_cases h2:i - p.length < y.length
   ·rw [List.getElem?_append_left h2]
    constructor
    ·intro e
     refine ⟨_,List.mem_cons_self,?_⟩
     rw [hy] at e
     by_cases h3:i - p.length < ya.length
     ·rw [List.getElem?_append_left h3] at e
      exact absurd (List.mem_of_getElem? e) na
     ·rw [List.getElem?_append_right (by (first|lia|omega))] at e
      by_cases h4:i - p.length - ya.length=0
      ·(first|lia|omega)
      ·obtain ⟨k,hk⟩:∃ k,i - p.length - ya.length=k + 1:=⟨i - p.length - ya.length - 1,by (first|lia|omega)⟩
       rw [hk,List.getElem?_cons_succ] at e
       exact absurd (List.mem_of_getElem? e) nb
    ·rintro ⟨o,ho,e⟩
     rcases List.mem_cons.mp ho with rfl | ho
     ·have:i - p.length=ya.length:=by (first|lia|omega)
      rw [this,hy,List.getElem?_append_right (Nat.le_refl _)]
      simp
     ·have:=offs_ge _ _ _ _ ho; (first|lia|omega)
   ·rw [List.getElem?_append_right (by (first|lia|omega)),ih]
    constructor
    ·rintro ⟨o,ho,e⟩
     exact ⟨o,List.mem_cons_of_mem _ ho,by (first|lia|omega)⟩
    ·rintro ⟨o,ho,e⟩
     rcases List.mem_cons.mp ho with rfl | ho
     ·(first|lia|omega)
     ·exact ⟨o,ho,by (first|lia|omega)⟩
theorem at_off {y:List Nat}:∀ (ps:List (List Nat)) (a o:Nat),o ∈ offs y.length a ps->((jn y ps).drop (o - a)).take y.length=y/\o - a + y.length<=(jn y ps).length
 | [],_,_,h=>by simp [offs] at h
 | [_],_,_,h=>by simp [offs] at h
 | p :: q :: r,a,o,h=>by
  rw [offs,List.mem_cons] at h
  rw [jn]
  rcases h with rfl | h
  ·rw [show a + p.length - a=p.length by (first|lia|omega),List.drop_left,List.take_left,List.length_append,List.length_append]
   exact ⟨rfl,by (first|lia|omega)⟩
  ·have g:=offs_ge _ _ _ _ h
   obtain ⟨i1,i2⟩:=at_off (q :: r) _ o h
   have e1:o - a=p.length + (y.length + (o - (a + p.length + y.length))):=by (first|lia|omega)
   rw [e1,<-List.drop_drop,List.drop_left,<-List.drop_drop,List.drop_left,List.length_append,List.length_append]
   exact ⟨i1,by (first|lia|omega)⟩
theorem occ_covers (s sub:Str) (hi limit:Nat):∀ (n k:Nat) (st:Array Nat × Nat),st.fst.size<=k->k + n<=limit->(∀ i,i < k->At s sub hi i->∃ j ∈ st.fst.toList,j<=i/\i < j + sub.length)->(st.snd=0\/∃ j ∈ st.fst.toList,st.snd=j + sub.length/\j<=k)->0 < sub.length ->
  ∀ i,i < k + n->At s sub hi i->∃ j ∈ (forIn (List.range' k n) st (occBody s sub hi limit)).run.fst.toList,j<=i/\i < j + sub.length
 | 0,k,st,_,_,h,_,_=>fun i hi' ha=>h i (by (first|lia|omega)) ha
 | n + 1,k,st,hz,hl,h,hf,hp=>by
  rw [List.range'_succ,List.forIn_cons]
  unfold occBody
  split
  ·rename_i hc
   intro i hi' ha
   refine occ_covers s sub hi limit n (k + 1) (st.fst.push k,k + sub.length) (by show (st.fst.push k).size<=_; rw [Array.size_push]; (first|lia|omega)) (by (first|lia|omega)) (fun j hj aj=>?_) (.inr ⟨k,by simp,rfl,by (first|lia|omega)⟩) hp i (by (first|lia|omega)) ha
   show ∃ j' ∈ (st.fst.push k).toList,_
   rw [Array.toList_push]
   by_cases e:j < k
   ·obtain ⟨j',h1,h2⟩:=h j e aj
    exact ⟨j',List.mem_append_left _ h1,h2⟩
   ·exact ⟨k,by simp,by (first|lia|omega),by (first|lia|omega)⟩
  ·rename_i hc
   intro i hi' ha
   refine occ_covers s sub hi limit n (k + 1) (st.fst,st.snd) (by show st.fst.size<=_; (first|lia|omega)) (by (first|lia|omega)) (fun j hj aj=>?_) (hf.imp id fun ⟨j,h1,h2,h3⟩=>⟨j,h1,h2,by (first|lia|omega)⟩) hp i (by (first|lia|omega)) ha
   by_cases e:j < k
   ·exact h j e aj
   ·have:j=k:=by (first|lia|omega)
    subst this
    have nf:¬ st.snd<=j:=fun z=>hc ⟨⟨⟨by (first|lia|omega),z⟩,aj.1⟩,aj.2⟩
    rcases hf with z | ⟨j',h1,h2,h3⟩
    ·(first|lia|omega)
    ·exact ⟨j',h1,h3,by (first|lia|omega)⟩
theorem chain_gap {s sub:Str} {hi:Nat}:∀ {cuts:List Nat} {a f:Nat},ChainTo s sub hi a cuts f->(∀ c ∈ cuts,a<=c/\At s sub hi c)/\cuts.Pairwise fun o o'=>o + sub.length<=o'
 | [],_,_,_=>⟨(fun c hc=>nomatch hc),.nil⟩
 | c :: r,a,f,h=>by
  obtain ⟨i1,i2⟩:=chain_gap h.2.2
  refine ⟨fun d hd=>?_,List.pairwise_cons.mpr ⟨fun d hd=>(i1 d hd).1,i2⟩⟩
  rcases List.mem_cons.mp hd with rfl | hd
  ·exact ⟨h.1,h.2.1⟩
  ·have:=i1 d hd
   exact ⟨by have:=h.1; (first|lia|omega),this.2⟩
theorem gap_uniq {w:Nat} (hw:0 < w):∀ {l m:List Nat},l.Pairwise (fun o o'=>o + w<=o')->m.Pairwise (fun o o'=>o + w<=o')->(∀ x,x ∈ l ↔ x ∈ m)->l=m:=fun {l m} h1 h2 h=>by
 have nd:∀ {l:List Nat},l.Pairwise (fun o o'=>o + w<=o')->l.Nodup:=fun h=>List.Pairwise.imp (fun {a b} z e=>by subst e; (first|lia|omega)) h
 exact List.Perm.eq_of_pairwise (le:=fun a b=>a<=b) (fun a b _ _ x y=>by (first|lia|omega)) (List.Pairwise.imp (fun {a b} z=>by (first|lia|omega)) h1) (List.Pairwise.imp (fun {a b} z=>by (first|lia|omega)) h2) ((List.perm_ext_iff_of_nodup (nd h1) (nd h2)).mpr h)
theorem parts_off (x:Str) {y:List Nat}:∀ (ps:List (List Nat)) (a:Nat),ps ≠ []->x.cps.toList.drop a=jn y ps->a<=x.length->(partsFrom x y.length a (offs y.length a ps)).map (fun p=>p.cps.toList)=ps
 | [],_,h,_,_=>absurd rfl h
 | [p],a,_,h,_=>by
  rw [offs,partsFrom,List.map_cons,strSub_toList,h,jn]
  have:p.length=x.length - a:=by
   have:=congrArg List.length h
   rw [List.length_drop,jn] at this
   have e:x.cps.toList.length=x.length:=Array.length_toList
   (first|lia|omega)
  rw [<-this,List.take_length]
  rfl
 | p :: q :: r,a,_,h,ha=>by
  rw [offs,partsFrom,List.map_cons,strSub_toList,h,jn]
  have e:x.cps.toList.length=x.length:=Array.length_toList
  have hl:=congrArg List.length h
  rw [List.length_drop,jn,List.length_append,List.length_append] at hl
  rw [show a + p.length - a=p.length by (first|lia|omega),List.take_left,parts_off x (q :: r) (a + p.length + y.length) (by simp) ?_ (by (first|lia|omega))]
  rw [show a + p.length + y.length=a + (p.length + y.length) by (first|lia|omega),<-List.drop_drop,h,jn,<-List.append_assoc,show p.length + y.length=(p ++ y).length by rw [List.length_append],List.drop_left]
theorem jn_join (y:Str) (ps:List Str):(Txt.join y ps).cps.toList=jn y.cps.toList (ps.map fun p=>p.cps.toList):=by
 unfold Txt.join
 rw [glued_eq_join]
 induction ps with
 | nil=>rfl
 | cons p r ih=>
  cases r with
  | nil=>rfl
  | cons q r=>
   rw [List.map_cons] at ih
   rw [List.map_cons,List.map_cons,jn,<-ih]
   have e:Str.join y (p :: q :: r)=p ++ y ++ Str.join y (q :: r):=rfl
   rw [e]
   show ((p.cps ++ y.cps) ++ (Str.join y (q :: r)).cps).toList=_
   simp
theorem str_list_inj {a b:Str} (h:a.cps.toList=b.cps.toList):a=b:=by
 cases a; cases b
 simp only [Str.mk.injEq]
 exact Array.toList_inj.mp h
theorem strs_list_inj {l m:List Str} (h:l.map (fun p=>p.cps.toList)=m.map (fun p=>p.cps.toList)):l=m:=by
 induction l generalizing m with
 | nil=>cases m with
  | nil=>rfl
  | cons _ _=>cases h
 | cons x l ih=>cases m with
  | nil=>cases h
  | cons z m=>
   rw [List.map_cons,List.map_cons] at h
   injection h with h1 h2
   rw [str_list_inj h1,ih h2]
theorem split_join {y:Str} {ya yb:List Nat} {c:Nat} (hy:y.cps.toList=ya ++ c :: yb) (na:c ∉ ya) (nb:c ∉ yb) (k1:strKind y=1) {ps:List Str} (ne:ps ≠ []) (h:∀ p ∈ ps,c ∉ p.cps.toList):Txt.split (Txt.join y ps) y=ps:=by
 have yl:y.cps.toList.length=y.length:=Array.length_toList
 have wp:0 < y.length:=by rw [<-yl,hy,List.length_append,List.length_cons]; (first|lia|omega)
 obtain ⟨x,ex⟩:∃ x,x=Txt.join y ps:=⟨_,rfl⟩
 have hx:=jn_join y ps
 rw [<-ex] at hx ⊢
 have xl:x.cps.toList.length=x.length:=Array.length_toList
 have hps:∀ p ∈ ps.map (fun p=>p.cps.toList),c ∉ p:=fun p hp=>by
  obtain ⟨q,hq,rfl⟩:=List.mem_map.mp hp
  exact h q hq
 have att:∀ i,At x y x.length i ↔ i ∈ offs y.length 0 (ps.map fun p=>p.cps.toList):=fun i=>by
  unfold At
  rw [subAt_eq,hx]
  constructor
  ·rintro ⟨h1,h2⟩
   have h2:=eq_of_beq h2
   have e:(jn y.cps.toList (ps.map fun p=>p.cps.toList))[i + ya.length]? = some c:=by
    have e3:y.cps.toList[ya.length]? = some c:=by rw [hy,List.getElem?_append_right (Nat.le_refl _)]; simp
    rw [<-h2,List.getElem?_take,List.getElem?_drop] at e3
    split at e3
    ·exact e3
    ·cases e3
   obtain ⟨o,ho,e2⟩:=(pos_c hy na nb _ 0 _ hps).mp e
   rw [yl] at ho
   have:o=i:=by (first|lia|omega)
   exact this ▸ ho
  ·intro ho
   rw [<-yl] at ho
   obtain ⟨h1,h2⟩:=at_off _ _ _ ho
   rw [Nat.sub_zero] at h1 h2
   rw [yl] at h1 h2
   rw [<-hx,xl] at h2
   exact ⟨h2,by rw [h1]; simp⟩
 have occ:occurrences x y 0 x.length (x.length + 1)=offs y.length 0 (ps.map fun p=>p.cps.toList):=by
  obtain ⟨f,ch⟩:=occ_chain x y (x.length + 1)
  obtain ⟨g1,g2⟩:=chain_gap ch
  refine gap_uniq wp g2 (offs_gap _ _ _) fun i=>⟨fun hi=>(att i).mp (g1 i hi).2,fun hi=>?_⟩
  have ai:=(att i).mpr hi
  obtain ⟨j,hj,j1,j2⟩:=occ_covers x y x.length (x.length + 1) (x.length + 1) 0 (#[],0) (Nat.le_refl _) (by (first|lia|omega)) (fun i hi=>absurd hi (Nat.not_lt_zero _)) (.inl rfl) wp i (by have:=ai.1; (first|lia|omega)) ai
  have hj':j ∈ occurrences x y 0 x.length (x.length + 1):=by rw [occ_eq]; exact hj
  have hjo:=(att j).mp (g1 j hj').2
  have:j=i:=by
   rcases Nat.lt_or_ge j i with z | z
   ·have key:∀ {l:List Nat},l.Pairwise (fun o o'=>o + y.length<=o')->j ∈ l->i ∈ l->j < i->j + y.length<=i:=by
     intro l hp
     induction hp with
     | nil=>intro a; cases a
     | cons a b ih=>
      intro m1 m2 lt
      rcases List.mem_cons.mp m1 with e1 | m1'
      ·rcases List.mem_cons.mp m2 with e2 | m2'
       ·(first|lia|omega)
       ·have:=a _ m2'; (first|lia|omega)
      ·rcases List.mem_cons.mp m2 with e2 | m2'
       ·have:=a _ m1'; (first|lia|omega)
       ·exact ih m1' m2' lt
    have:=key (offs_gap _ _ _) hjo hi z
    (first|lia|omega)
   ·(first|lia|omega)
  exact this ▸ hj'
 have whole:(partsBetween x (occurrences x y 0 x.length (x.length + 1)) y.length)=ps:=by
  rw [partsBetween_eq,occ]
  refine strs_list_inj ?_
  rw [<-yl]
  exact parts_off x _ 0 (by simpa using ne) (by rw [List.drop_zero]; exact hx) (Nat.zero_le _)
 unfold Txt.split
 have two:(∃ p,ps=[p])\/∃ p q r,ps=p :: q :: r:=by
  cases ps with
  | nil=>exact absurd rfl ne
  | cons p r=>cases r with
   | nil=>exact .inl ⟨p,rfl⟩
   | cons q r=>exact .inr ⟨p,q,r,rfl⟩
 rcases two with ⟨p,e⟩ | ⟨p,q,r,e⟩
 ·have ep:x=p:=by rw [ex,e]; rfl
  rw [occ,e]
  rw [List.map_cons,List.map_nil,offs]
  split
  ·rw [ep]
  ·rw [if_pos (by rfl),ep]
 ·have big:y.length<=x.length:=by
   rw [<-xl,hx,e,List.map_cons,List.map_cons,jn,List.length_append,List.length_append,yl]
   (first|lia|omega)
  have k2:1<=Builtin.Str.strKind x:=by unfold Builtin.Str.strKind; split; exact Nat.le_refl _; split <;> decide
  rw [if_neg (by rw [k1]; simp; exact ⟨big,by (first|lia|omega)⟩),if_neg,whole]
  rw [occ,e,List.map_cons,List.map_cons,offs]
  simp
end L2
namespace L2
open PySem PySem.Spec PyProof.Rows PySem.NumText
def numS (n:Int):Str:=Str.ofString (toString n)
theorem num_len {n:Int} (h0:0<=n) (h1:n < 10 ^ 30):(numS n).length<=30:=toString_length_le h0 (by decide) h1
theorem num_signs (m:Nat):(numS (m:Int)).cps.toList=(Nat.toDigits 10 m).map Char.toNat:=PySem.W.KIN.signs_num m
theorem num_digits {n:Int} (h0:0<=n):∀ c ∈ (numS n).cps.toList,48<=c/\c<=57:=by
 obtain ⟨m,rfl⟩:=Int.eq_ofNat_of_zero_le h0
 intro c hc
 rw [num_signs] at hc
 obtain ⟨ch,hch,rfl⟩:=List.mem_map.mp hc
 exact digit_range (Nat.isDigit_of_mem_toDigits (by decide) (by decide) hch)
theorem num_ne {n:Int} (h0:0<=n):(numS n).cps.toList ≠ []:=by
 obtain ⟨m,rfl⟩:=Int.eq_ofNat_of_zero_le h0
 rw [num_signs]
 intro e
 have h:=toDigits_len_ge 10 m
 rw [List.map_eq_nil_iff.mp e] at h
 exact absurd h (by decide)
theorem num_back {n:Int} (h0:0<=n) (h1:n < 10 ^ 30):PySem.intText? (numS n)=some n:=by
 have hl:=num_len h0 h1
 have hd:=num_digits h0
 have hne:=num_ne h0
 obtain ⟨m,rfl⟩:=Int.eq_ofNat_of_zero_le h0
 have e:=intText_digits hd hne (Nat.le_trans hl (by decide))
 rw [num_signs,PySem.W.KIN.val_back] at e
 exact e
theorem digits_head:∀ m:Nat,0 < m->∃ ch r,Nat.toDigits 10 m=ch :: r/\ch ≠ '0':=by
 intro m
 induction m using Nat.strongRecOn with
 | _ m ih=>
  intro hm
  by_cases h:m < 10
  ·rw [Nat.toDigits_of_lt_base h]
   refine ⟨_,_,rfl,?_⟩
   have:∀ k:Fin 10,0 < k.val->Nat.digitChar k.val ≠ '0':=by decide
   exact this ⟨m,h⟩ hm
  ·have hr:m % 10 < 10:=Nat.mod_lt m (by decide)
   have t:Nat.toDigits 10 (m / 10) ++ Nat.toDigits 10 (m % 10)=Nat.toDigits 10 (10 * (m / 10) + m % 10):=Nat.toDigits_append_toDigits (by decide) (by (first|lia|omega)) hr
   rw [Nat.div_add_mod] at t
   obtain ⟨ch,r,e,n0⟩:=ih (m / 10) (by (first|lia|omega)) (by (first|lia|omega))
   rw [<-t,e]
   exact ⟨ch,_,rfl,n0⟩
theorem num_head {n:Int} (h0:0<=n):numS n="0"\/∃ c,(numS n).cps.toList[0]? = some c/\c ≠ 48:=by
 obtain ⟨m,rfl⟩:=Int.eq_ofNat_of_zero_le h0
 by_cases hm:m=0
 ·subst hm
  exact .inl rfl
 ·obtain ⟨ch,r,e,n0⟩:=digits_head m (by (first|lia|omega))
  refine .inr ⟨ch.toNat,by rw [num_signs,e]; rfl,fun z=>n0 ?_⟩
  have:ch=Char.ofNat 48:=by rw [<-z]; exact (Char.ofNat_toNat ch).symm
  rw [this]
theorem num_log {n:Int} (h0:0<=n) (h1:n < 10 ^ 30):n.natAbs.log2 < 1920:=by
 by_cases z:n.natAbs=0
 ·rw [z]; decide
 ·refine (Nat.log2_lt z).mpr (Nat.lt_of_lt_of_le (m:=10 ^ 30) (by (first|lia|omega)) (by decide))
theorem call_int_text {X:Cx}:CallR X (.type "int") (fun xs H Q=>∃ (x:Str) (n:Int),xs=[.str x]/\PySem.intText? x=some n/\x.length<=640/\Q (.int n) H):=by
 intro pins s σ H xs us Q I r h
 obtain ⟨x,n,rfl,e,l,q⟩:=h
 obtain ⟨u,rfl,t,rfl⟩:=vals1 r
 exact PySem.W.KIN.call_text e l ⟨.int n,H,I.tok _,⟨_,rfl⟩,q⟩
theorem mt_split {X:Cx}:MtM X "str.split" (fun x vs H Q=>∃ (z y:Str),x=.str z/\vs=[.str y]/\(y.length == 0)=false/\z.length<=100000/\(Txt.split z y).length<=100000/\∀ D,H D=none->Q (.ref D) (upd H D (.lst ((Txt.split z y).map V.str)))):=by
 intro pins s σ H x vs v us Q I rx rv h
 obtain ⟨z,y,rfl,rfl,hy,hz,hn,q⟩:=h
 obtain ⟨t,rfl⟩:=rx
 obtain ⟨u,rfl,ru⟩:=rv.one
 obtain ⟨tu,rfl⟩:=ru
 have big:100000<=sizeLine:=by decide
 have fin:∀ (l:List (Str × Tok)) (tk:Nat),l.map (·.1)=Txt.split z y->EP X pins σ Q (.ref s.heap.objs.size) { s with heap:=s.heap.push { cls:=.type "list",data:=.seq (strValues l).toArray },toks:=tk }:=fun l tk e=>by
  have rel:Vals ((Txt.split z y).map V.str) (strValues l):=by
   rw [<-e]
   clear e
   induction l with
   | nil=>exact .nil
   | cons a l ih=>exact .cons ⟨_,rfl⟩ ih
  exact ⟨.ref s.heap.objs.size,_,I.laid (o:=.lst ((Txt.split z y).map V.str)) (t':=tk) (fun b o z=>Heap.get?_push_of_some _ z) (Nat.le_refl _) ⟨by rw [List.length_map]; (first|lia|omega),strValues l,0,rel,Heap.get?_push_size _ rfl⟩,rfl,q _ (I.hok.fresh (Nat.le_refl _))⟩
 cases h1:(decide (z.length < y.length) || decide (Builtin.Str.strKind z < Builtin.Str.strKind y))
 ·cases hf:(Builtin.Str.occurrences z y 0 z.length (z.length + 1)).isEmpty
  ·have e:Txt.split z y=Builtin.Str.partsBetween z (Builtin.Str.occurrences z y 0 z.length (z.length + 1)) y.length:=by
    unfold Txt.split
    rw [if_neg (ne_true_of_eq_false h1),if_neg (ne_true_of_eq_false hf)]
   refine call_meets F.slot_str_split (typeIs_str _ _ _) F.entry_str_split (F.args_str_split_2 _ _) (meets_str_split_sep z y t tu h1 hy hf (by (first|lia|omega)) (by rw [<-e]; (first|lia|omega))) ?_
   show wants _ _ _ _
   rw [strsFrom_eq]
   exact fin _ _ ((numbered_texts _ _).trans e.symm)
  ·have e:Txt.split z y=[z]:=by
    unfold Txt.split
    rw [if_neg (ne_true_of_eq_false h1),if_pos hf]
   exact call_meets F.slot_str_split (typeIs_str _ _ _) F.entry_str_split (F.args_str_split_2 _ _) (meets_str_split_not_found z y t tu h1 hy hf) (fin [(z,t)] s.toks e.symm)
 ·have e:Txt.split z y=[z]:=by
   unfold Txt.split
   rw [if_pos h1]
  exact call_meets F.slot_str_split (typeIs_str _ _ _) F.entry_str_split (F.args_str_split_2 _ _) (meets_str_split_cannot_occur z y t tu h1) (fin [(z,t)] s.toks e.symm)
def tFmt (te:TE):TE:=fun σ H Q=>te σ H fun x H1=>(∃ z,x=.str z/\z.length<=sizeLine/\Q (.str z) H1)\/∃ i,x=.int i/\i.natAbs.log2 < 1920/\Q (.str (toString i)) H1
theorem pe_fmt {X:Cx} {e:Expr} {te:TE} {pos:Pos} (h:PE X e te):PE X (.FormattedValue e (-1) none pos) (tFmt te):=by
 intro pins s σ H Q I q
 refine FormattedValue_plain (thn (h pins s σ H _ I q) fun v s1 ⟨x,H1,I1,r1,q1⟩=>?_)
 rcases q1 with ⟨z,rfl,hz,q1⟩ | ⟨i,rfl,hz,q1⟩
 ·obtain ⟨t,rfl⟩:=r1
  exact formatField_str (fun t' tk=>⟨.str z,H1,I1.tok tk,⟨_,rfl⟩,q1⟩) hz
 ·obtain ⟨t,rfl⟩:=r1
  exact formatField_int_small hz ⟨.str _,H1,I1.tok _,⟨_,rfl⟩,q1⟩
abbrev TJ:=Str->St->Hp->VK->Prop
def PJ (X:Cx) (es:List Expr) (t:TJ):Prop:=
 ∀ (out:Str) (pins:List (Addr × Obj)) (s:Shared) (σ:St) (H:Hp) (Q:VK),Inv X pins σ H s->t out σ H Q->wpAny (model X.prog X.w) X.A (joinParts out (evalEach es X.env)) (EP X pins σ Q) X.xe s
def jNil:TJ:=fun out _ H Q=>out.length<=sizeLine/\Q (.str out) H
def jCons (te:TE) (t:TJ):TJ:=fun out σ H Q=>te σ H fun x H1=>∃ y,x=.str y/\(out ++ y).length<=sizeLine/\t (out ++ y) σ H1 Q
theorem pj_nil {X:Cx}:PJ X [] jNil:=fun out pins s σ H Q I ⟨l,q⟩=>joinParts_nil ⟨.str out,H,I.tok _,⟨_,rfl⟩,q⟩ l
theorem pj_cons {X:Cx} {e:Expr} {es:List Expr} {te:TE} {t:TJ} (h:PE X e te) (hr:PJ X es t) (he:evalEach (e :: es) X.env=eval e X.env :: evalEach es X.env:=by rfl):PJ X (e :: es) (jCons te t):=by
 intro out pins s σ H Q I q
 rw [he]
 refine joinParts_cons (thn (h pins s σ H _ I q) fun v s1 ⟨x,H1,I1,r1,y,e1,l1,q1⟩=>?_)
 subst e1
 obtain ⟨tk,rfl⟩:=r1
 exact ⟨l1,hr _ pins s1 σ H1 Q I1 q1⟩
theorem pe_fstr {X:Cx} {v₁ v₂:Expr} {rest:List Expr} {t:TJ} {pos:Pos} (h:PJ X (v₁ :: v₂ :: rest) t) (he:evalEach (v₁ :: v₂ :: rest) X.env=eval v₁ X.env :: eval v₂ X.env :: evalEach rest X.env:=by rfl):PE X (.JoinedStr (v₁ :: v₂ :: rest) pos) (fun σ H Q=>t Str.empty σ H Q):=by
 intro pins s σ H Q I q
 refine JoinedStr_many ?_
 rw [<-he]
 exact h Str.empty pins s σ H Q I q
end L2
namespace L2
open PySem PySem.Spec PyProof.Rows
abbrev Pr:=Str × Str
def pairD (g:Pr):PyData:=.tuple [.str g.1,.str g.2]
def prW (r:Row):Str:=(r.1 ++ "=") ++ numS r.2
def prS (rs:List Row):Str:=Txt.join " " (rs.map prW)
theorem str_empty (x:Str):Str.empty ++ x=x:=by
 refine str_list_inj ?_
 show (#[] ++ x.cps).toList=_
 simp
theorem app_len (x y:Str):(x ++ y).length=x.length + y.length:=by
 show (x.cps ++ y.cps).size=_
 rw [Array.size_append]
 rfl
theorem app_toList (x y:Str):(x ++ y).cps.toList=x.cps.toList ++ y.cps.toList:=by
 show (x.cps ++ y.cps).toList=_
 rw [Array.toList_append]
theorem jn_len {y:List Nat} {B:Nat}:∀ {ps:List (List Nat)},(∀ p ∈ ps,p.length<=B)->(jn y ps).length<=ps.length * (B + y.length)
 | [],_=>Nat.zero_le _
 | [p],h=>by
  rw [jn]
  have:=h p (by simp)
  simp only [List.length_singleton]
  (first|lia|omega)
 | p :: q :: r,h=>by
  rw [jn,List.length_append,List.length_append]
  have:=h p (by simp)
  have ih:=jn_len (y:=y) (ps:=q :: r) fun z hz=>h z (List.mem_cons_of_mem _ hz)
  rw [List.length_cons (a:=p),Nat.succ_mul]
  (first|lia|omega)
theorem join_len {y:Str} {B:Nat} {ps:List Str} (h:∀ p ∈ ps,p.length<=B):(Txt.join y ps).length<=ps.length * (B + y.length):=by
 have e:=jn_join y ps
 have:=jn_len (y:=y.cps.toList) (B:=B) (ps:=ps.map fun p=>p.cps.toList) fun p hp=>by
  obtain ⟨q,hq,rfl⟩:=List.mem_map.mp hp
  have:=h q hq
  have e:q.cps.toList.length=q.length:=Array.length_toList
  (first|lia|omega)
 rw [<-e,List.length_map] at this
 have e1:(Txt.join y ps).cps.toList.length=(Txt.join y ps).length:=Array.length_toList
 have e2:y.cps.toList.length=y.length:=Array.length_toList
 rw [e1,e2] at this
 exact this
theorem sum_leB {B:Nat} {ss:List Str} (h:∀ s ∈ ss,s.length<=B):(ss.map (·.length)).sum<=ss.length * B:=by
 induction ss with
 | nil=>exact Nat.zero_le _
 | cons x ss ih=>
  rw [List.map_cons,List.sum_cons,List.length_cons,Nat.succ_mul]
  have:=h x (by simp)
  have:=ih fun s hs=>h s (List.mem_cons_of_mem _ hs)
  (first|lia|omega)
theorem prW_len {r:Row} (h:r.1.length<=10/\0<=r.2/\r.2 < 10 ^ 30):(prW r).length<=50:=by
 unfold prW
 rw [app_len,app_len]
 have:(Str.ofString "=").length=1:=rfl
 have:=num_len h.2.1 h.2.2
 (first|lia|omega)
theorem dats_pair {H:Hp}:∀ {vs:List V} {rs:List Pr} {i:Nat} {x:V},Dats H vs (rs.map pairD)->vs[i]? = some x->∃ u t,rs[i]? = some u/\x=.ref t/\H t=some (.tup [.str u.1,.str u.2]):=fun {vs rs i x} h e=>by
 obtain ⟨d,e1,e2⟩:=h.at e
 rw [List.getElem?_map] at e1
 cases z:rs[i]? with
 | none=>rw [z] at e1; cases e1
 | some u=>
  rw [z] at e1
  injection e1 with e1
  subst e1
  unfold pairD at e2
  cases e2 with
  | tup ha hd=>
   cases hd with
   | cons h1 r1=>
    cases r1 with
    | cons h2 r2=>
     cases r2
     cases h1
     cases h2
     exact ⟨u,_,rfl,rfl,ha⟩
def spPrT:Sp:=fun vs H Q _=>∃ (t:Addr) (us:List V) (rs:List Row),vs=[.ref t]/\H t=some (.tup us)/\Dats H us (rs.map rowD)/\(∀ r ∈ rs,r.1.length<=10/\0<=r.2/\r.2 < 10 ^ 30)/\rs.length<=30/\∀ H',Same H H'->Q (.str (prS rs)) H'
theorem name_len {s:Str} (h:nameB s=true):s.length<=10:=by
 obtain ⟨_,l,_⟩:=low_of h
 (first|lia|omega)
theorem prS_len {rs:List Row} (h:∀ r ∈ rs,r.1.length<=10/\0<=r.2/\r.2 < 10 ^ 30) (l:rs.length<=30):(prS rs).length<=2000:=by
 have:=join_len (y:=" ") (B:=50) (ps:=rs.map prW) fun p hp=>by
  obtain ⟨g,hg,rfl⟩:=List.mem_map.mp hp
  exact prW_len (h g hg)
 have e:(Str.ofString " ").length=1:=rfl
 rw [e,List.length_map] at this
 unfold prS
 (first|lia|omega)
end L2
namespace L2
open PySem PySem.Spec PyProof.Rows
section
variable {prog:Program} {w:World} {A:Around} {E:Value->Shared->Prop} {I:Addr} {fp wr:List Addr} {n:Nat} {P:Nat->Value->Prop} {St:Nat->Heap->Prop}
end
section
variable {prog:Program} {w:World} {A:Around} {E:Value->Shared->Prop} {s:Shared}
end
theorem jn_mem {y:List Nat} {c:Nat}:∀ {ps:List (List Nat)},c ∈ jn y ps->c ∈ y\/∃ p ∈ ps,c ∈ p
 | [],h=>by simp [jn] at h
 | [p],h=>.inr ⟨p,by simp,h⟩
 | p :: q :: r,h=>by
  rw [jn,List.mem_append,List.mem_append] at h
  rcases h with h | h | h
  ·exact .inr ⟨p,by simp,h⟩
  ·exact .inl h
  ·rcases jn_mem h with h | ⟨z,hz,hc⟩
   ·exact .inl h
   ·exact .inr ⟨z,List.mem_cons_of_mem _ hz,hc⟩
theorem join_mem {y:Str} {c:Nat} {ps:List Str} (h:c ∈ (Txt.join y ps).cps.toList):c ∈ y.cps.toList\/∃ p ∈ ps,c ∈ p.cps.toList:=by
 rw [jn_join] at h
 rcases jn_mem h with h | ⟨p,hp,hc⟩
 ·exact .inl h
 ·obtain ⟨q,hq,rfl⟩:=List.mem_map.mp hp
  exact .inr ⟨q,hq,hc⟩
theorem name_sign {s:Str} (h:nameB s=true) {c:Nat} (hc:c ∈ s.cps.toList):97<=c/\c<=122:=by
 have:=(low_of h).2.2 c hc
 unfold lowc at this
 rw [Bool.and_eq_true,decide_eq_true_eq,decide_eq_true_eq] at this
 exact this
def rowW (m:Str) (r:Pr):Str:=(r.1 ++ m) ++ r.2
theorem rowW_join (m:Str) (r:Pr):rowW m r=Txt.join m [r.1,r.2]:=by
 refine str_list_inj ?_
 rw [jn_join]
 unfold rowW
 simp only [app_toList,List.map_cons,List.map_nil,jn,List.append_assoc]
theorem one_sign (c:Nat):(⟨#[c]⟩:Str).cps.toList=[] ++ c :: []:=rfl
theorem split_one {c:Nat} (hc:c < 256) {ps:List Str} (ne:ps ≠ []) (h:∀ p ∈ ps,c ∉ p.cps.toList):Txt.split (Txt.join ⟨#[c]⟩ ps) ⟨#[c]⟩=ps:=
 split_join (one_sign c) (by simp) (by simp) (by unfold Builtin.Str.strKind; rw [if_pos (by simp [hc])]) ne h
end L2
namespace L2
open PySem PySem.Spec PyProof.Rows
structure RowOk (c:Nat) (rs:List Pr):Prop where
 c0:c < 97
 c1:c ≠ 32
 nm:∀ r ∈ rs,nameB r.1=true
 w1:∀ r ∈ rs,c ∉ r.2.cps.toList/\32 ∉ r.2.cps.toList/\r.2.length<=40
 ri:Rising (rs.map (·.1))
 ne:rs ≠ []
 l9:rs.length<=9
def spRowsT:Sp:=fun vs H Q _=>∃ (c:Nat) (rs:List Pr),vs=[.str (Txt.join " " (rs.map (rowW ⟨#[c]⟩))),.str ⟨#[c]⟩]/\RowOk c rs/\∀ (H':Hp) (t:Addr) (us:List V),Same H H'->H' t=some (.tup us)->Dats H' us (rs.map pairD)->Q (.ref t) H'
def spPrR:Sp:=fun vs H Q _=>∃ rs:List Row,vs=[.str (prS rs)]/\(∀ r ∈ rs,nameB r.1=true/\0<=r.2/\r.2 < 10 ^ 30)/\Rising (rs.map (·.1))/\rs ≠ []/\rs.length<=9/\∀ (H':Hp) (t:Addr) (us:List V),Same H H'->H' t=some (.tup us)->Dats H' us (rs.map rowD)->Q (.ref t) H'
theorem row_split {c:Nat} {rs:List Pr} (h:RowOk c rs) {r:Pr} (hr:r ∈ rs):Txt.split (rowW ⟨#[c]⟩ r) ⟨#[c]⟩=[r.1,r.2]:=by
 rw [rowW_join]
 refine split_one (by have:=h.c0; (first|lia|omega)) (by simp) fun p hp=>?_
 simp only [List.mem_cons,List.not_mem_nil,or_false] at hp
 rcases hp with rfl | rfl
 ·intro hc
  have:=name_sign (h.nm r hr) hc
  have:=h.c0
  (first|lia|omega)
 ·exact (h.w1 r hr).1
theorem rows_split {c:Nat} {rs:List Pr} (h:RowOk c rs):Txt.split (Txt.join " " (rs.map (rowW ⟨#[c]⟩))) " "=rs.map (rowW ⟨#[c]⟩):=by
 refine split_one (c:=32) (by decide) (by simpa using h.ne) fun p hp=>?_
 obtain ⟨r,hr,rfl⟩:=List.mem_map.mp hp
 unfold rowW
 rw [app_toList,app_toList]
 intro hc
 rcases List.mem_append.mp hc with hc | hc
 ·rcases List.mem_append.mp hc with hc | hc
  ·have:=name_sign (h.nm r hr) hc
   (first|lia|omega)
  ·have:(32:Nat)=c:=by simpa using hc
   exact h.c1 this.symm
 ·exact (h.w1 r hr).2.1 hc
theorem rowW_len {c:Nat} {rs:List Pr} (h:RowOk c rs) {r:Pr} (hr:r ∈ rs):(rowW ⟨#[c]⟩ r).length<=60:=by
 unfold rowW
 rw [app_len,app_len]
 have:=name_len (h.nm r hr)
 have:=(h.w1 r hr).2.2
 have:(⟨#[c]⟩:Str).length=1:=rfl
 (first|lia|omega)
theorem pairD_of {H:Hp} {t:Addr} {g:Pr} (h:H t=some (.tup [.str g.1,.str g.2])):Dat H (.ref t) (pairD g):=.tup h (.cons (.str _) (.cons (.str _) .nil))
theorem pair_dats {H H':Hp}:∀ {vs:List V} {rs:List Pr},Dats H vs (rs.map pairD)->(∀ b ys,H b=some (.tup ys)->H' b=some (.tup ys))->Dats H' vs (rs.map pairD)
 | vs,[],h,_=>by cases h; exact .nil
 | vs,r :: rs,h,k=>by
  rw [List.map_cons] at h ⊢
  cases h with
  | cons h1 h2=>
   unfold pairD at h1
   cases h1 with
   | tup ha hd=>
    cases hd with
    | cons x1 r1=>cases r1 with
     | cons x2 r2=>
      cases r2
      cases x1
      cases x2
      exact .cons (pairD_of (k _ _ ha)) (pair_dats h2 k)
def prP (rs:List Row):List Pr:=rs.map fun r=>(r.1,numS r.2)
theorem pr_rows {rs:List Row} (h1:∀ r ∈ rs,nameB r.1=true/\0<=r.2/\r.2 < 10 ^ 30) (h2:Rising (rs.map (·.1))) (h3:rs ≠ []) (h4:rs.length<=9):RowOk 61 (prP rs):=by
 unfold prP
 refine ⟨by decide,by decide,fun g hg=>?_,fun g hg=>?_,?_,by simpa using h3,by rw [List.length_map]; exact h4⟩
 ·obtain ⟨r,hr,rfl⟩:=List.mem_map.mp hg
  exact (h1 r hr).1
 ·obtain ⟨r,hr,rfl⟩:=List.mem_map.mp hg
  obtain ⟨_,a,b⟩:=h1 r hr
  refine ⟨fun hc=>by have:=num_digits a _ hc; (first|lia|omega),fun hc=>by have:=num_digits a _ hc; (first|lia|omega),Nat.le_trans (num_len a b) (by decide)⟩
 ·rw [List.map_map]
  exact h2
theorem prS_rows (rs:List Row):prS rs=Txt.join " " ((prP rs).map (rowW ⟨#[61]⟩)):=by
 unfold prS prP
 rw [List.map_map]
 rfl
end L2
namespace L2
open PySem PySem.Spec PyProof.Rows
def PenX (K:PySem.W.Frag) (H:Hp) (p a:Addr) (ns:List Int):Prop:=∃ i l,PenAt K H p a ns i l
theorem PenX.same {K:PySem.W.Frag} {H H':Hp} {p a:Addr} {ns:List Int} (h:PenX K H p a ns) (s:Same H H'):PenX K H' p a ns:=by
 obtain ⟨i,l,h⟩:=h
 exact ⟨i,l,h.same s⟩
theorem PenX.fresh {K:PySem.W.Frag} {H:Hp} {p a q:Addr} {ns:List Int} (h:PenX K H p a ns) (e:H q=none):q ≠ p:=by
 obtain ⟨i,l,h⟩:=h
 exact h.fresh e
theorem PenX.ne {K:PySem.W.Frag} {H:Hp} {p a q:Addr} {ns:List Int} {o:HO} (h:PenX K H p a ns) (e:H q=some o) (n:∀ kvs,o ≠ .dK kvs):q ≠ p:=by
 obtain ⟨i,l,h⟩:=h
 intro z
 subst z
 rw [h.dc] at e
 exact n _ (Option.some.inj e).symm
theorem PenX.dats {K:PySem.W.Frag} {H H':Hp} {p a:Addr} {ns:List Int} (h:PenX K H p a ns) (k:Keep p H H') {vs:List V} {ds:List PyData} (d:Dats H vs ds):Dats H' vs ds:=
 d.mono fun b o e ⟨vs,z⟩=>k b o (h.ne e (fun kvs=>by rcases z with rfl | rfl <;> intro q <;> cases q)) e
theorem PenX.upd {K:PySem.W.Frag} {H:Hp} {p a q:Addr} {ns:List Int} {o o':HO} (h:PenX K H p a ns) (e:H q=some o) (n:∀ kvs,o ≠ .dK kvs) (n':∀ ob u,o ≠ .frz ob u):PenX K (L2.upd H q o') p a ns:=by
 obtain ⟨i,l,h⟩:=h
 exact ⟨i,l,h.other e n' n⟩
def spAmt (K:PySem.W.Frag):Sp:=fun vs H Q _=>∃ (p a:Addr) (ns:List Int) (least:Int),vs=[.ref p,.int least]/\PenX K H p a ns/\ns.length<=63/\0<=least/\least<=1/\∀ (n:Int) (H':Hp),0<=n->n < 10 ^ 30->PenX K H' p a ns->Keep p H H'->Q (.int n) H'
def spRisL (K:PySem.W.Frag):Sp:=fun vs H Q _=>∃ (p a:Addr) (ns:List Int) (most:Int),vs=[.ref p,.int most]/\PenX K H p a ns/\ns.length<=63/\1<=most/\most<=9/\∀ (H':Hp) (D:Addr) (ss:List Str),PenX K H' p a ns->Keep p H H'->H' D=some (.lst (ss.map V.str))->ss ≠ []->ss.length<=9->Rising ss->(∀ s ∈ ss,nameB s=true)->Q (.ref D) H'
def spPrL (K:PySem.W.Frag):Sp:=fun vs H Q _=>∃ (p a:Addr) (ns:List Int) (D:Addr) (ss:List Str),vs=[.ref p,.ref D]/\PenX K H p a ns/\ns.length<=63/\H D=some (.lst (ss.map V.str))/\ss.length<=9/\∀ (H':Hp) (t:Addr) (us:List V) (rs:List Row),PenX K H' p a ns->Keep p H H'->H' t=some (.tup us)->Dats H' us (rs.map rowD)->rs.map (·.1)=ss->(∀ r ∈ rs,0<=r.2/\r.2 < 10 ^ 30)->Q (.ref t) H'
def smD:Nat->PyData->Prop
 | _,.str _=>True
 | _,.int _=>True
 | n + 1,.tuple ds=>ds.length<=100/\∀ d ∈ ds,smD n d
 | _,_=>False
def spSame (n:Nat):Sp:=fun vs H Q _=>∃ (u v:V) (d:PyData),vs=[u,v]/\Dat H u d/\Dat H v d/\smD n d/\∀ H',Same H H'->Q (.bl true) H'
theorem read_none {n:Nat} {g:TG} {tt:TT} {te:TE} {H:Hp} {σ0:St} {R:Addr->Hp->Prop} (I:Nat->St->Prop) (h0:I 0 σ0)
  (turn:∀ i σ H' (N:St->Hp->Prop),i < n->I i σ->Same H H'->(∀ σ2 H4,I (i + 1) σ2->Same H' H4->N σ2 H4)->∀ B:St->V->Hp->Prop,g (.int (0 + (i:Int))) σ H' fun σ2 H3=>tt σ2 H3 fun b H4=>if b=true then te σ2 H4 (B σ2) else N σ2 H4)
  (fin:∀ D H',H D=none->Same H H'->H' D=some (.lst [])->R D H') :
  ∀ D,H D=none->∃ W:Nat->Nat->St->Hp->Prop,(∃ m,W 0 m σ0 (upd H D (.lst []))) /\
   ∀ i m σ' H',W i m σ' H'->((Itr 0 n).stop i H'/\R D H')\/((Itr 0 n).go i H'/\∀ x H2,(Itr 0 n).yld i H' x H2->g x σ' H2 fun σ2 H3=>tt σ2 H3 fun b H4=>
    if b=true then te σ2 H4 (fun v H5=>∃ acc,H5 D=some (.lst acc)/\acc.length < sizeLine/\∃ m',m' < m/\W (i + 1) m' σ2 (upd H5 D (.lst (acc ++ [v])))) else ∃ m',m' < m/\W (i + 1) m' σ2 H4):=by
 intro D hD
 refine ⟨fun i m σ H'=>m=n - i/\i<=n/\I i σ/\Same H H'/\H' D=some (.lst []),⟨n,rfl,Nat.zero_le _,h0,same_upd hD,upd_same⟩,?_⟩
 rintro i m σ H' ⟨rfl,hi,p,sa,hDD⟩
 by_cases hlt:i < n
 ·refine .inr ⟨hlt,fun x H2 ⟨e1,e2⟩=>?_⟩
  subst e1 e2
  exact turn i σ H2 _ hlt p sa (fun σ2 H4 p4 s4=>⟨n - (i + 1),by (first|lia|omega),rfl,hlt,p4,sa.trans s4,s4 _ _ hDD⟩) _
 ·have e:i=n:=by (first|lia|omega)
  subst e
  exact .inl ⟨Nat.le_refl _,fin D H' hD sa hDD⟩
end L2
namespace L2
open PySem PySem.Spec PyProof.Rows PySem.StrLaws
def findF (z y:Str) (i:Int):Int:=match Builtin.Str.occurrences z y (fromIndex z.length i) z.length 1 with | k :: _=>(k:Int) | []=>-1
theorem mt_find {X:Cx}:MtM X "str.find" (fun x vs H Q=>∃ (z y:Str) (i:Int),x=.str z/\vs=[.str y,.int i]/\Q (.int (findF z y i)) H):=by
 intro pins s σ H x vs v us Q I rx rv h
 obtain ⟨z,y,i,rfl,rfl,q⟩:=h
 obtain ⟨t,rfl⟩:=rx
 obtain ⟨u,v,rfl,ru,rw'⟩:=vals2 rv
 obtain ⟨tu,rfl⟩:=ru
 obtain ⟨tv,rfl⟩:=rw'
 exact call_gives F.slot_str_find (typeIs_str _ _ _) F.entry_str_find (F.args_str_find_3 _ _ _) (gives_str_find_from z y i t tu tv) ⟨.int _,H,I.tok _,⟨_,rfl⟩,q⟩
def startsF (z y:Str) (i:Int):Bool:=decide (fromIndex z.length i + y.length<=z.length) && Builtin.Str.subAt z y (fromIndex z.length i)
theorem mt_starts {X:Cx}:MtM X "str.startswith" (fun x vs H Q=>∃ (z y:Str) (i:Int),x=.str z/\vs=[.str y,.int i]/\Q (.bl (startsF z y i)) H):=by
 intro pins s σ H x vs v us Q I rx rv h
 obtain ⟨z,y,i,rfl,rfl,q⟩:=h
 obtain ⟨t,rfl⟩:=rx
 obtain ⟨u,v,rfl,ru,rw'⟩:=vals2 rv
 obtain ⟨tu,rfl⟩:=ru
 obtain ⟨tv,rfl⟩:=rw'
 exact call_gives F.slot_str_startswith (typeIs_str _ _ _) F.entry_str_startswith (F.args_str_startswith_3 _ _ _) (gives_str_startswith_from z y i t tu tv) ⟨.bl _,H,I,rfl,q⟩
theorem from_nat {n k:Nat}:fromIndex n (k:Int)=k:=by
 unfold fromIndex
 rw [if_neg (by (first|lia|omega))]
 (first|lia|omega)
def Cut (z:Str) (i:Nat) (b:Str):Prop:=(z.cps.toList.drop i).take b.length=b.cps.toList/\i + b.length<=z.length
theorem len_toList (x:Str):x.cps.toList.length=x.length:=Array.length_toList
theorem starts_cut {z b:Str} {i:Nat} (h:Cut z i b):startsF z b (i:Int)=true:=by
 unfold startsF
 rw [from_nat,decide_eq_true h.2,subAt_eq,h.1]
 simp
theorem starts_not {z b y:Str} {i c d:Nat} (h:Cut z i b) (hb:b.cps.toList[0]? = some c) (hy:y.cps.toList[0]? = some d) (ne:c ≠ d):startsF z y (i:Int)=false:=by
 unfold startsF
 rw [from_nat,subAt_eq]
 have e1:(z.cps.toList.drop i)[0]? = some c:=by
  have:=h.1
  have e:((z.cps.toList.drop i).take b.length)[0]? = some c:=by rw [this]; exact hb
  rw [List.getElem?_take] at e
  split at e
  ·exact e
  ·cases e
 have e2:((z.cps.toList.drop i).take y.length == y.cps.toList)=false:=by
  rw [beq_eq_false_iff_ne]
  intro z'
  rw [<-z',List.getElem?_take] at hy
  split at hy
  ·rw [e1] at hy
   exact ne (Option.some.inj hy)
  ·cases hy
 rw [e2,Bool.and_false]
theorem find_cut {z w:Str} {i c:Nat} (h:Cut z i (w ++ ⟨#[c]⟩)) (hc:c ∉ w.cps.toList):findF z ⟨#[c]⟩ (i:Int)=((i + w.length:Nat):Int):=by
 have wl:=app_len w ⟨#[c]⟩
 have one:(⟨#[c]⟩:Str).length=1:=rfl
 rw [one] at wl
 have h1:=h.1
 have h2:=h.2
 rw [wl,app_toList] at h1
 rw [wl] at h2
 have get:∀ j,j < w.length + 1->z.cps.toList[i + j]? = (w.cps.toList ++ [c])[j]?:=fun j hj=>by
  have e:((z.cps.toList.drop i).take (w.length + 1))[j]? = (w.cps.toList ++ [c])[j]?:=by rw [h1]
  rw [List.getElem?_take,if_pos hj,List.getElem?_drop] at e
  exact e
 have at1:∀ k,At z ⟨#[c]⟩ z.length k ↔ k + 1<=z.length/\z.cps.toList[k]? = some c:=fun k=>by
  unfold At
  rw [one,subAt_eq,one]
  refine and_congr_right fun hk=>?_
  have lk:k < z.cps.toList.length:=by rw [len_toList]; (first|lia|omega)
  rw [List.drop_eq_getElem_cons lk,List.take_succ_cons,List.take_zero,List.getElem?_eq_getElem lk]
  show ([z.cps.toList[k]] == [c])=true ↔ _
  simp
 have yes:At z ⟨#[c]⟩ z.length (i + w.length):=(at1 _).mpr ⟨by (first|lia|omega),by
  rw [get w.length (by (first|lia|omega)),<-len_toList w,List.getElem?_append_right (Nat.le_refl _)]
  simp⟩
 have no:∀ k,i<=k->k < i + w.length->¬ At z ⟨#[c]⟩ z.length k:=fun k k1 k2 ha=>by
  have e:=((at1 k).mp ha).2
  obtain ⟨j,rfl⟩:∃ j,k=i + j:=⟨k - i,by (first|lia|omega)⟩
  rw [get j (by (first|lia|omega)),List.getElem?_append_left (by rw [len_toList]; (first|lia|omega))] at e
  exact hc (List.mem_of_getElem? e)
 unfold findF
 rw [from_nat]
 have key:(Builtin.Str.occurrences z ⟨#[c]⟩ i z.length 1)[0]? = some (i + w.length):=by
  rw [occ_eq]
  rcases occ_first z ⟨#[c]⟩ z.length 1 (Nat.le_refl _) (List.range' i (z.length + 1 - i)) i (fun k hk=>by rw [List.mem_range'_1] at hk; exact hk.1) with ⟨_,hn⟩ | ⟨pre,a,post,e,h0,ha,hn⟩
  ·exact absurd yes (hn _ (by rw [List.mem_range'_1]; (first|lia|omega)))
  ·have ea:a=i + w.length:=by
    have ma:a ∈ List.range' i (z.length + 1 - i):=by rw [e]; simp
    rw [List.mem_range'_1] at ma
    rcases Nat.lt_trichotomy a (i + w.length) with lt | eq | gt
    ·exact absurd ha (no a ma.1 lt)
    ·exact eq
    ·have my:i + w.length ∈ pre ++ a :: post:=by rw [<-e,List.mem_range'_1]; (first|lia|omega)
     rcases List.mem_append.mp my with m | m
     ·exact absurd yes (hn _ m)
     ·rcases List.mem_cons.mp m with m | m
      ·(first|lia|omega)
      ·have so:(List.range' i (z.length + 1 - i)).Pairwise (· < ·):=List.pairwise_lt_range' ..
       rw [e,List.pairwise_append] at so
       have:=(List.pairwise_cons.mp so.2.1).1 _ m
       (first|lia|omega)
   rw [<-ea,Array.getElem?_toList]
   exact h0
 cases z5:Builtin.Str.occurrences z ⟨#[c]⟩ i z.length 1 with
 | nil=>rw [z5] at key; cases key
 | cons a r=>
  rw [z5] at key
  simp only [List.getElem?_cons_zero,Option.some.injEq] at key
  rw [key]
theorem slice_cut {z w:Str} {i:Nat} (h:Cut z i w):Txt.slice z (some (i:Int)) (some ((i + w.length:Nat):Int))=w:=by
 refine str_list_inj ?_
 unfold Txt.slice
 split
 ·rename_i hc
  have e:=sliced_plain z (a:=i) (b:=i + w.length) (by (first|lia|omega)) h.2
  have hw:=h.1
  have hl:(Builtin.Str.strSliceIndices (some (i:Int)) (some ((i + w.length:Nat):Int)) 1 z.length).length=w.length:=by
   rw [strSliceIndices_plain (by (first|lia|omega)) h.2,List.length_map,List.length_range]
   (first|lia|omega)
  have full:w.length=z.length:=by
   rw [<-hl]
   first
    | exact eq_of_beq hc
    | (simp at hc; exact hc)
    | (have:=hc; simp only [beq_iff_eq] at this; exact this)
  have i0:i=0:=by have:=h.2; (first|lia|omega)
  subst i0
  rw [List.drop_zero,full,<-len_toList z,List.take_length] at hw
  exact hw
 ·have e:=sliced_plain z (a:=i) (b:=i + w.length) (by (first|lia|omega)) h.2
  show ((Builtin.Str.strSliceIndices (some (i:Int)) (some ((i + w.length:Nat):Int)) 1 z.length).filterMap (z.cps[·]?)).toArray.toList=_
  rw [List.toList_toArray,e,show i + w.length - i=w.length by (first|lia|omega)]
  exact h.1
end L2
namespace L2
open PySem PySem.Spec PyProof.Rows PySem.StrLaws
inductive Tr where
 | leaf (rs:List Row) (n:Int)
 | split (s:Str) (a b:Tr)
def Tr.dep:Tr->Nat
 | .leaf _ _=>1
 | .split _ a b=>1 + max a.dep b.dep
def Tr.siz:Tr->Nat
 | .leaf _ _=>1
 | .split _ a b=>1 + a.siz + b.siz
structure LeafOk (rs:List Row) (n:Int):Prop where
 r1:∀ r ∈ rs,nameB r.1=true/\0<=r.2/\r.2 < 10 ^ 30
 r2:Rising (rs.map (·.1))
 r3:rs ≠ []
 r4:rs.length<=9
 n0:0<=n
 n1:n < 10 ^ 30
def Tr.ok:Tr->Prop
 | .leaf rs n=>LeafOk rs n
 | .split s a b=>nameB s=true/\a.ok/\b.ok
def trD:Tr->PyData
 | .leaf rs n=>.tuple [.str "leaf",.tuple (rs.map rowD),.int n]
 | .split s a b=>.tuple [.str "split",.str s,trD a,trD b]
def leS (rs:List Row) (n:Int):Str:=((("leaf(" ++ prS rs) ++ ";") ++ numS n) ++ ")"
def trS:Tr->Str
 | .leaf rs n=>leS rs n
 | .split s a b=>((((("split(" ++ s) ++ ";") ++ trS a) ++ ";") ++ trS b) ++ ")"
theorem Tr.dep1:∀ t:Tr,1<=t.dep
 | .leaf _ _=>Nat.le_refl _
 | .split _ a b=>by rw [Tr.dep]; (first|lia|omega)
theorem LeafOk.sr {rs:List Row} {n:Int} (h:LeafOk rs n):∀ r ∈ rs,r.1.length<=10/\0<=r.2/\r.2 < 10 ^ 30:=fun r hr=>⟨name_len (h.r1 r hr).1,(h.r1 r hr).2⟩
theorem leS_len {rs:List Row} {n:Int} (h:LeafOk rs n):(leS rs n).length<=2100:=by
 unfold leS
 simp only [app_len]
 have:=prS_len h.sr (by have:=h.r4; (first|lia|omega))
 have:=num_len h.n0 h.n1
 have e1:(Str.ofString "leaf(").length=5:=rfl
 have e2:(Str.ofString ";").length=1:=rfl
 have e3:(Str.ofString ")").length=1:=rfl
 (first|lia|omega)
theorem trS_len:∀ {t:Tr},t.ok->(trS t).length<=2100 * t.siz
 | .leaf rs n,h=>by rw [trS,Tr.siz]; have:=leS_len h; (first|lia|omega)
 | .split s a b,h=>by
  rw [trS,Tr.siz]
  simp only [app_len]
  have:=name_len h.1
  have:=trS_len h.2.1
  have:=trS_len h.2.2
  have e1:(Str.ofString "split(").length=6:=rfl
  have e2:(Str.ofString ";").length=1:=rfl
  have e3:(Str.ofString ")").length=1:=rfl
  (first|lia|omega)
theorem sm_mono {n m:Nat} {d:PyData} (h:n<=m) (hd:smD n d):smD m d:=by
 induction n generalizing m d with
 | zero=>
  cases d with
  | str _=>cases m <;> exact trivial
  | int _=>cases m <;> exact trivial
  | _=>exact absurd hd (by simp [smD])
 | succ n ih=>
  obtain ⟨m',rfl⟩:∃ m',m=m' + 1:=⟨m - 1,by (first|lia|omega)⟩
  cases d with
  | tuple ds=>exact ⟨hd.1,fun x hx=>ih (by (first|lia|omega)) (hd.2 x hx)⟩
  | str _=>exact trivial
  | int _=>exact trivial
  | _=>exact absurd hd (by simp [smD])
theorem tr_sm:∀ {t:Tr},t.ok->smD (t.dep + 2) (trD t)
 | .leaf rs n,h=>by
  refine ⟨(by show 3<=100; decide),fun d hd=>?_⟩
  simp only [List.mem_cons,List.not_mem_nil,or_false] at hd
  have h3:=h.r4
  rcases hd with rfl | rfl | rfl
  ·exact trivial
  ·refine ⟨by rw [List.length_map]; (first|lia|omega),fun e he=>?_⟩
   obtain ⟨s,hs,rfl⟩:=List.mem_map.mp he
   refine ⟨(by show 2<=100; decide),fun x hx=>?_⟩
   simp only [List.mem_cons,List.not_mem_nil,or_false] at hx
   rcases hx with rfl | rfl <;> exact trivial
  ·exact trivial
 | .split s a b,h=>by
  rw [Tr.dep,show 1 + max a.dep b.dep + 2=(max a.dep b.dep + 2) + 1 by (first|lia|omega)]
  refine ⟨(by show 4<=100; decide),fun d hd=>?_⟩
  simp only [List.mem_cons,List.not_mem_nil,or_false] at hd
  rcases hd with rfl | rfl | rfl | rfl
  ·exact trivial
  ·exact trivial
  ·exact sm_mono (by (first|lia|omega)) (tr_sm h.2.1)
  ·exact sm_mono (by (first|lia|omega)) (tr_sm h.2.2)
theorem leaf_at {H:Hp} {v:V} {rs:List Row} {n:Int} (h:Dat H v (trD (.leaf rs n))):∃ (t q:Addr) (us:List V),v=.ref t/\H t=some (.tup [.str "leaf",.ref q,.int n])/\H q=some (.tup us)/\Dats H us (rs.map rowD):=by
 rw [trD] at h
 cases h with
 | tup ht d=>
  cases d with
  | cons d1 r1=>cases r1 with
   | cons d2 r2=>cases r2 with
    | cons d3 r3=>
     cases r3
     cases d1
     cases d3
     cases d2 with
     | tup hq dq=>exact ⟨_,_,_,rfl,ht,hq,dq⟩
theorem split_at {H:Hp} {v:V} {s:Str} {a b:Tr} (h:Dat H v (trD (.split s a b))):∃ (t:Addr) (va vb:V),v=.ref t/\H t=some (.tup [.str "split",.str s,va,vb])/\Dat H va (trD a)/\Dat H vb (trD b):=by
 rw [trD] at h
 cases h with
 | tup ht d=>
  cases d with
  | cons d1 r1=>cases r1 with
   | cons d2 r2=>cases r2 with
    | cons d3 r3=>cases r3 with
     | cons d4 r4=>
      cases r4
      cases d1
      cases d2
      exact ⟨_,_,_,rfl,ht,d3,d4⟩
theorem leaf_dat {H:Hp} {t q:Addr} {us:List V} {rs:List Row} {n:Int} (ht:H t=some (.tup [.str "leaf",.ref q,.int n])) (hq:H q=some (.tup us)) (d:Dats H us (rs.map rowD)):Dat H (.ref t) (trD (.leaf rs n)):=
 .tup ht (.cons (.str _) (.cons (.tup hq d) (.cons (.int n) .nil)))
theorem split_dat {H:Hp} {t:Addr} {va vb:V} {s:Str} {a b:Tr} (ht:H t=some (.tup [.str "split",.str s,va,vb])) (ha:Dat H va (trD a)) (hb:Dat H vb (trD b)):Dat H (.ref t) (trD (.split s a b)):=
 .tup ht (.cons (.str _) (.cons (.str _) (.cons ha (.cons hb .nil))))
def spTT (k:Nat):Sp:=fun vs H Q _=>∃ (v:V) (tr:Tr),vs=[v]/\Dat H v (trD tr)/\tr.ok/\tr.dep<=k/\tr.siz<=400/\∀ H',Same H H'->Q (.str (trS tr)) H'
def spBeh:Sp:=fun vs H Q _=>∃ (z m:Str) (i:Nat),vs=[.str z,.int i,.str m]/\Cut z i m/\m.length<=100/\Q (.int ((i + m.length:Nat):Int)) H
def spPart:Sp:=fun vs H Q _=>∃ (z w:Str) (i c:Nat),vs=[.str z,.int i,.str ⟨#[c]⟩]/\Cut z i (w ++ ⟨#[c]⟩)/\c ∉ w.cps.toList/\z.length<=sizeLine/\∀ (H':Hp) (t:Addr),Same H H'->H' t=some (.tup [.str w,.int ((i + w.length + 1:Nat):Int)])->Q (.ref t) H'
def spLeafAt:Sp:=fun vs H Q _=>∃ (z:Str) (i:Nat) (rs:List Row) (n:Int),vs=[.str z,.int ((i + 5:Nat):Int)]/\Cut z i (leS rs n)/\LeafOk rs n/\z.length<=sizeLine/\∀ (H':Hp) (t:Addr) (v:V),Same H H'->H' t=some (.tup [v,.int ((i + (leS rs n).length:Nat):Int)])->Dat H' v (trD (.leaf rs n))->Q (.ref t) H'
def spTreeAt (k:Nat):Sp:=fun vs H Q _=>∃ (z:Str) (i d:Nat) (tr:Tr),vs=[.str z,.int i,.int d]/\Cut z i (trS tr)/\tr.ok/\tr.dep<=k/\d + tr.dep<=31/\z.length<=sizeLine/\∀ (H':Hp) (t:Addr) (v:V),Same H H'->H' t=some (.tup [v,.int ((i + (trS tr).length:Nat):Int)])->Dat H' v (trD tr)->Q (.ref t) H'
def spReadT:Sp:=fun vs H Q _=>∃ tr:Tr,vs=[.str (trS tr)]/\tr.ok/\tr.dep<=30/\tr.siz<=400/\∀ (H':Hp) (v:V),Same H H'->Dat H' v (trD tr)->Q v H'
def spLeafL (K:PySem.W.Frag):Sp:=fun vs H Q _=>∃ (p a:Addr) (ns:List Int),vs=[.ref p]/\PenX K H p a ns/\ns.length<=63/\∀ (H':Hp) (v:V) (rs:List Row) (n:Int),PenX K H' p a ns->Keep p H H'->Dat H' v (trD (.leaf rs n))->LeafOk rs n->Q v H'
def spTreeL (K:PySem.W.Frag):Sp:=fun vs H Q _=>∃ (p a:Addr) (ns:List Int),vs=[.ref p,.int 30]/\PenX K H p a ns/\ns.length<=63/\∀ (H':Hp) (v:V) (tr:Tr),PenX K H' p a ns->Keep p H H'->Dat H' v (trD tr)->tr.ok->tr.dep<=30->tr.siz<=400->Q v H'
theorem PenX.dat {K:PySem.W.Frag} {H H':Hp} {p a:Addr} {ns:List Int} (h:PenX K H p a ns) (k:Keep p H H') {v:V} {d:PyData} (e:Dat H v d):Dat H' v d:=
 e.mono fun b o e ⟨vs,z⟩=>k b o (h.ne e (fun kvs=>by rcases z with rfl | rfl <;> intro q <;> cases q)) e
theorem Cut.sub {z b x y w:Str} {i:Nat} (h:Cut z i b) (e:b=x ++ (y ++ w)):Cut z (i + x.length) y:=by
 subst e
 obtain ⟨h1,h2⟩:=h
 rw [app_len,app_len] at h2
 refine ⟨?_,by (first|lia|omega)⟩
 have e:=congrArg (fun l=>(l.drop x.length).take y.length) h1
 rw [app_len,app_len,app_toList,app_toList] at e
 rw [<-len_toList x,List.drop_left,<-len_toList y,List.take_left,len_toList,len_toList,List.drop_take,List.drop_drop,List.take_take] at e
 rw [show min y.length (x.length + (y.length + w.length) - x.length)=y.length by (first|lia|omega)] at e
 exact e
theorem app_assoc (a b c:Str):(a ++ b) ++ c=a ++ (b ++ c):=by
 refine str_list_inj ?_
 simp only [app_toList,List.append_assoc]
theorem app_nil (a:Str):a ++ Str.empty=a:=by
 refine str_list_inj ?_
 rw [app_toList]
 show a.cps.toList ++ []=_
 simp
end L2
namespace L2
open PySem PySem.Spec PyProof.Rows PySem.StrLaws
theorem name_no {s:Str} (h:nameB s=true) {c:Nat} (hc:c < 97):c ∉ s.cps.toList:=fun m=>by
 have:=(name_sign h m).1
 (first|lia|omega)
theorem num_no41 {n:Int} (h:0<=n):(41:Nat) ∉ (numS n).cps.toList:=fun m=>by
 have:=(num_digits h 41 m).1
 (first|lia|omega)
theorem pr_no59 {rs:List Row} {n:Int} (h:LeafOk rs n):(59:Nat) ∉ (prS rs).cps.toList:=fun m=>by
 rcases join_mem m with z | ⟨p,hp,z⟩
 ·have e:(Str.ofString " ").cps.toList=[32]:=rfl
  rw [e] at z
  simp at z
 ·obtain ⟨r,hr,rfl⟩:=List.mem_map.mp hp
  unfold prW at z
  rw [app_toList,app_toList] at z
  have e:(Str.ofString "=").cps.toList=[61]:=rfl
  rcases List.mem_append.mp z with z | z
  ·rcases List.mem_append.mp z with z | z
   ·exact name_no (h.r1 r hr).1 (by decide) z
   ·rw [e] at z
    simp at z
  ·have:=(num_digits (h.r1 r hr).2.1 59 z).2
   (first|lia|omega)
theorem leaf_head {z:Str} {i:Nat} {rs:List Row} {n:Int} (h:Cut z i (trS (.leaf rs n))):Cut z i "leaf(":=by
 have:=h.sub (x:=Str.empty) (y:="leaf(") (w:=prS rs ++ (";" ++ (numS n ++ ")"))) (by rw [str_empty,trS,leS,app_assoc,app_assoc,app_assoc])
 exact this
theorem leaf_cuts {z:Str} {i:Nat} {rs:List Row} {n:Int} (h:Cut z i (leS rs n)):Cut z (i + 5) (prS rs ++ ⟨#[59]⟩)/\Cut z (i + 5 + (prS rs).length + 1) (numS n ++ ⟨#[41]⟩)/\i + 5 + (prS rs).length + 1 + (numS n).length + 1=i + (leS rs n).length:=by
 refine ⟨?_,?_,?_⟩
 ·have:=h.sub (x:="leaf(") (y:=prS rs ++ ";") (w:=numS n ++ ")") (by rw [leS,app_assoc,app_assoc,app_assoc,app_assoc])
  exact this
 ·have:=h.sub (x:="leaf(" ++ (prS rs ++ ";")) (y:=numS n ++ ")") (w:=Str.empty) (by rw [app_nil,leS,app_assoc,app_assoc,app_assoc,app_assoc,app_assoc])
  rw [app_len,app_len] at this
  have e:i + 5 + (prS rs).length + 1=i + ((Str.ofString "leaf(").length + ((prS rs).length + (Str.ofString ";").length)):=by
   show i + 5 + (prS rs).length + 1=i + (5 + ((prS rs).length + 1))
   (first|lia|omega)
  rw [e]
  exact this
 ·rw [leS,app_len,app_len,app_len,app_len]
  show i + 5 + (prS rs).length + 1 + (numS n).length + 1=i + (5 + (prS rs).length + 1 + (numS n).length + 1)
  (first|lia|omega)
theorem split_cuts {z s:Str} {i:Nat} {a b:Tr} (h:Cut z i (trS (.split s a b))):Cut z i "split("/\Cut z (i + 6) (s ++ ⟨#[59]⟩)/\Cut z (i + 6 + s.length + 1) (trS a)/\Cut z (i + 6 + s.length + 1 + (trS a).length) ";"/\Cut z (i + 6 + s.length + 1 + (trS a).length + 1) (trS b)/\Cut z (i + 6 + s.length + 1 + (trS a).length + 1 + (trS b).length) ")"/\i + 6 + s.length + 1 + (trS a).length + 1 + (trS b).length + 1=i + (trS (.split s a b)).length:=by
 have l1:(Str.ofString "split(").length=6:=rfl
 have l2:(Str.ofString ";").length=1:=rfl
 have l3:(Str.ofString ")").length=1:=rfl
 have e0:trS (.split s a b)="split(" ++ (s ++ (";" ++ (trS a ++ (";" ++ (trS b ++ ")"))))):=by rw [trS]; simp only [app_assoc]
 rw [e0] at h ⊢
 refine ⟨?_,?_,?_,?_,?_,?_,?_⟩
 ·have:=h.sub (x:=Str.empty) (y:="split(") (by rw [str_empty])
  exact this
 ·have:=h.sub (x:="split(") (y:=s ++ ";") (w:=trS a ++ (";" ++ (trS b ++ ")"))) (by simp only [app_assoc])
  rw [l1] at this
  exact this
 ·have:=h.sub (x:="split(" ++ (s ++ ";")) (y:=trS a) (w:=";" ++ (trS b ++ ")")) (by simp only [app_assoc])
  rw [app_len,app_len,l1,l2] at this
  rw [show i + 6 + s.length + 1=i + (6 + (s.length + 1)) by (first|lia|omega)]
  exact this
 ·have:=h.sub (x:="split(" ++ (s ++ (";" ++ trS a))) (y:=";") (w:=trS b ++ ")") (by simp only [app_assoc])
  rw [app_len,app_len,app_len,l1,l2] at this
  rw [show i + 6 + s.length + 1 + (trS a).length=i + (6 + (s.length + (1 + (trS a).length))) by (first|lia|omega)]
  exact this
 ·have:=h.sub (x:="split(" ++ (s ++ (";" ++ (trS a ++ ";")))) (y:=trS b) (w:=")") (by simp only [app_assoc])
  rw [app_len,app_len,app_len,app_len,l1,l2] at this
  rw [show i + 6 + s.length + 1 + (trS a).length + 1=i + (6 + (s.length + (1 + ((trS a).length + 1)))) by (first|lia|omega)]
  exact this
 ·have:=h.sub (x:="split(" ++ (s ++ (";" ++ (trS a ++ (";" ++ trS b))))) (y:=")") (w:=Str.empty) (by rw [app_nil]; simp only [app_assoc])
  rw [app_len,app_len,app_len,app_len,app_len,l1,l2] at this
  rw [show i + 6 + s.length + 1 + (trS a).length + 1 + (trS b).length=i + (6 + (s.length + (1 + ((trS a).length + (1 + (trS b).length))))) by (first|lia|omega)]
  exact this
 ·simp only [app_len,l1,l2,l3]
  (first|lia|omega)
theorem three_join (a b c:Str):((("split(":Str) ++ Txt.join ";" [a,b,c]) ++ ")")=((((("split(" ++ a) ++ ";") ++ b) ++ ";") ++ c) ++ ")":=by
 refine str_list_inj ?_
 rw [app_toList,app_toList,jn_join]
 simp only [app_toList,List.map_cons,List.map_nil,jn,List.append_assoc]
theorem split_ne:(V.str "split":V) ≠ V.str "leaf":=fun e=>by
 injection e with e
 have:=congrArg (fun s:Str=>s.length) e
 exact absurd this (by decide)
theorem Tr.siz1:∀ t:Tr,1<=t.siz
 | .leaf _ _=>Nat.le_refl _
 | .split _ a b=>by rw [Tr.siz]; (first|lia|omega)
end L2
namespace L2
open PySem PySem.Spec PyProof.Rows PySem.StrLaws
theorem two_of {H:Hp} {v w:V} {t u:Tr} {e:Int} (h0:0<=e) (h1:e < 2) (dv:Dat H v (trD t)) (dw:Dat H w (trD u)) (ot:t.ok) (ou:u.ok) {m s:Nat} (d1:t.dep<=m) (d2:u.dep<=m) (sz:t.siz + u.siz<=s) :
  ∃ (ya yb:V) (ta tb:Tr),atI [v,w] e=some ya/\atI [v,w] (1 - e)=some yb/\Dat H ya (trD ta)/\Dat H yb (trD tb)/\ta.ok/\tb.ok/\ta.dep<=m/\tb.dep<=m/\ta.siz + tb.siz<=s:=by
 have:e=0\/e=1:=by (first|lia|omega)
 rcases this with rfl | rfl
 ·exact ⟨v,w,t,u,rfl,rfl,dv,dw,ot,ou,d1,d2,sz⟩
 ·exact ⟨w,v,u,t,rfl,rfl,dw,dv,ou,ot,d2,d1,by (first|lia|omega)⟩
theorem LeafOk.of {rs:List Row} {ss:List Str} {n:Int} (rt:rs.map (·.1)=ss) (r01:∀ r ∈ rs,0<=r.2/\r.2 < 10 ^ 30) (sne:ss ≠ []) (s9:ss.length<=9) (sri:Rising ss) (snm:∀ s ∈ ss,nameB s=true) (n0:0<=n) (n1:n < 10 ^ 30):LeafOk rs n:=by
 subst rt
 refine ⟨fun r hr=>⟨snm _ (List.mem_map.mpr ⟨r,hr,rfl⟩),r01 r hr⟩,sri,fun z=>sne (by rw [z]; rfl),by rw [List.length_map] at s9; exact s9,n0,n1⟩
end L2
namespace K76
open PySem L2
def top (i:Nat):Stmt:=PySem.Challenge.pw_openhouses_k76_trees_as_texts.main.body.getD i (.Pass ⟨0,0,0,0⟩)
abbrev s_is_name:Stmt:=top 5
theorem sc_is_name:FnScope ["thing"] ["thing"] (defScope s_is_name):=⟨rfl,rfl,rfl,by decide +kernel,rfl,by decide +kernel,by decide +kernel⟩
abbrev s_are_rising:Stmt:=top 6
theorem sc_are_rising:FnScope ["things"] ["things"] (defScope s_are_rising):=⟨rfl,rfl,rfl,by decide +kernel,rfl,by decide +kernel,by decide +kernel⟩
abbrev s_is_written:Stmt:=top 8
theorem sc_is_written:FnScope ["word"] ["word"] (defScope s_is_written):=⟨rfl,rfl,rfl,by decide +kernel,rfl,by decide +kernel,by decide +kernel⟩
abbrev s_need:Stmt:=top 11
theorem sc_need:FnScope ["right"] ["right"] (defScope s_need):=⟨rfl,rfl,rfl,by decide +kernel,rfl,by decide +kernel,by decide +kernel⟩
abbrev s_read_prices:Stmt:=top 12
theorem sc_read_prices:FnScope ["text"] ["text"] (defScope s_read_prices):=⟨rfl,rfl,rfl,by decide +kernel,rfl,by decide +kernel,by decide +kernel⟩
abbrev s_read_rows:Stmt:=top 13
theorem sc_read_rows:FnScope ["text","mark","rows"] ["text","mark"] (defScope s_read_rows):=⟨rfl,rfl,rfl,by decide +kernel,rfl,by decide +kernel,by decide +kernel⟩
abbrev s_read_number:Stmt:=top 14
theorem sc_read_number:FnScope ["word"] ["word"] (defScope s_read_number):=⟨rfl,rfl,rfl,by decide +kernel,rfl,by decide +kernel,by decide +kernel⟩
abbrev s_read_tree:Stmt:=top 15
theorem sc_read_tree:FnScope ["text","tree","end"] ["text"] (defScope s_read_tree):=⟨rfl,rfl,rfl,by decide +kernel,rfl,by decide +kernel,by decide +kernel⟩
abbrev s_tree_at:Stmt:=top 16
theorem sc_tree_at:FnScope ["text","at","depth","site","first","second"] ["text","at","depth"] (defScope s_tree_at):=⟨rfl,rfl,rfl,by decide +kernel,rfl,by decide +kernel,by decide +kernel⟩
abbrev s_leaf_at:Stmt:=top 17
theorem sc_leaf_at:FnScope ["text","at","prices","levy"] ["text","at"] (defScope s_leaf_at):=⟨rfl,rfl,rfl,by decide +kernel,rfl,by decide +kernel,by decide +kernel⟩
abbrev s_part_at:Stmt:=top 18
theorem sc_part_at:FnScope ["text","at","mark","end"] ["text","at","mark"] (defScope s_part_at):=⟨rfl,rfl,rfl,by decide +kernel,rfl,by decide +kernel,by decide +kernel⟩
abbrev s_behind:Stmt:=top 19
theorem sc_behind:FnScope ["text","at","mark"] ["text","at","mark"] (defScope s_behind):=⟨rfl,rfl,rfl,by decide +kernel,rfl,by decide +kernel,by decide +kernel⟩
abbrev s_prices_text:Stmt:=top 21
theorem sc_prices_text:FnScope ["prices"] ["prices"] (defScope s_prices_text):=⟨rfl,rfl,rfl,by decide +kernel,rfl,by decide +kernel,by decide +kernel⟩
abbrev s_tree_text:Stmt:=top 22
theorem sc_tree_text:FnScope ["tree","word","prices","levy","site","first","second"] ["tree"] (defScope s_tree_text):=⟨rfl,rfl,rfl,by decide +kernel,rfl,by decide +kernel,by decide +kernel⟩
abbrev s_law_pen:Stmt:=top 24
theorem sc_law_pen:FnScope ["_law_script"] ["_law_script"] (defScope s_law_pen):=⟨rfl,rfl,rfl,by decide +kernel,rfl,by decide +kernel,by decide +kernel⟩
abbrev s_law_take:Stmt:=top 25
theorem sc_law_take:FnScope ["_law_pen_here","_law_many","_law_digit","_law_script","_law_at","_law_cell","_law_number"] ["_law_pen_here","_law_many"] (defScope s_law_take):=⟨rfl,rfl,rfl,by decide +kernel,rfl,by decide +kernel,by decide +kernel⟩
abbrev s_law_names:Stmt:=top 26
theorem sc_law_names:FnScope ["_law_pen_here","_law_many","_law_letters","_law_names_here","_law_k","_law_name","_law_j","_law_spare"] ["_law_pen_here","_law_many"] (defScope s_law_names):=⟨rfl,rfl,rfl,by decide +kernel,rfl,by decide +kernel,by decide +kernel⟩
abbrev s_law_amount:Stmt:=top 27
theorem sc_law_amount:FnScope ["_law_pen_here","_law_least","_law_kind"] ["_law_pen_here","_law_least"] (defScope s_law_amount):=⟨rfl,rfl,rfl,by decide +kernel,rfl,by decide +kernel,by decide +kernel⟩
abbrev s_law_same:Stmt:=top 28
theorem sc_law_same:FnScope ["_law_told","_law_due"] ["_law_told","_law_due"] (defScope s_law_same):=⟨rfl,rfl,rfl,by decide +kernel,rfl,by decide +kernel,by decide +kernel⟩
abbrev s_law_rising:Stmt:=top 29
theorem sc_law_rising:FnScope ["_law_pen_here","_law_most"] ["_law_pen_here","_law_most"] (defScope s_law_rising):=⟨rfl,rfl,rfl,by decide +kernel,rfl,by decide +kernel,by decide +kernel⟩
abbrev s_law_prices:Stmt:=top 30
theorem sc_law_prices:FnScope ["_law_pen_here","_law_places"] ["_law_pen_here","_law_places"] (defScope s_law_prices):=⟨rfl,rfl,rfl,by decide +kernel,rfl,by decide +kernel,by decide +kernel⟩
abbrev s_law_prices_text:Stmt:=top 31
theorem sc_law_prices_text:FnScope ["_law_prices_here"] ["_law_prices_here"] (defScope s_law_prices_text):=⟨rfl,rfl,rfl,by decide +kernel,rfl,by decide +kernel,by decide +kernel⟩
abbrev s_law_leaf:Stmt:=top 32
theorem sc_law_leaf:FnScope ["_law_pen_here"] ["_law_pen_here"] (defScope s_law_leaf):=⟨rfl,rfl,rfl,by decide +kernel,rfl,by decide +kernel,by decide +kernel⟩
abbrev s_law_tree:Stmt:=top 33
theorem sc_law_tree:FnScope ["_law_pen_here","_law_deep","_law_way","_law_tree_here","_law_k","_law_some","_law_turn","_law_other"] ["_law_pen_here","_law_deep"] (defScope s_law_tree):=⟨rfl,rfl,rfl,by decide +kernel,rfl,by decide +kernel,by decide +kernel⟩
abbrev s_law_tree_text:Stmt:=top 34
theorem sc_law_tree_text:FnScope ["_law_tree_here","_law_parts"] ["_law_tree_here"] (defScope s_law_tree_text):=⟨rfl,rfl,rfl,by decide +kernel,rfl,by decide +kernel,by decide +kernel⟩
abbrev s_law:Stmt:=top 35
theorem sc_law:FnScope ["_law_script","_law_pen_here","_law_turn","_law_tree_here","_law_text","_law_again","_law_told"] ["_law_script"] (defScope s_law):=⟨rfl,rfl,rfl,by decide +kernel,rfl,by decide +kernel,by decide +kernel⟩
end K76
namespace K76
open PySem L2
structure TxtP (K:PySem.W.Frag) (mg:Str->Option Value):Prop where
 len:mg "len"=none
 abs:mg "abs"=none
section
variable {P:Program} {w:World} {K:PySem.W.Frag} {mg:Str->Option Value} {base:Heap}
theorem ok_pen {f:Addr} {fd:FuncData} (F:Fun K "_law_pen" "_law_pen" s_law_pen f fd):FnOk P w K mg base CX0 1 f fd ["_law_script"] (spPen K):=by
 refine F.ok sc_law_pen (fun vs H Q E h=>?_) (fun cdv A outer s H vs Q E hr h=>?_)
 ·obtain ⟨a,rfl,_⟩:=h
  rfl
 ·obtain ⟨a,rfl,k⟩:=h
  refine ⟨_,pss_one (ps_ret (pe_disp (pps_cons pe_str (pv 0) (pps_cons pe_str pe_int (pps_cons pe_str pe_int pps_nil))) rfl rfl (by intro z; cases z) (by decide))),?_⟩
  intro p hp
  refine ⟨_,rfl,upd_same,[(.inr "script",.ref a),(.inr "at",.int 0),(.inr "left",.int 0)],rfl,(by show 3<=15; decide),?_⟩
  rw [upd_upd]
  exact k p hp
theorem ok_take {f:Addr} {fd:FuncData} (T:TxtP K mg) (F:Fun K "_law_take" "_law_take" s_law_take f fd):FnOk P w K mg base CX0 1 f fd ["_law_pen_here","_law_many"] (spTake K):=by
 refine F.ok sc_law_take (fun vs H Q E h=>?_) (fun cdv A outer s H vs Q E hr h=>?_)
 ·obtain ⟨p,a,ns,i,l,m,rfl,_⟩:=h
  rfl
 ·obtain ⟨p,a,ns,i,l,m,rfl,⟨hd,hS,hi⟩,hm,hm2,hlen,k⟩:=h
  have hu:=hu_of hr
  refine ⟨_,pss_cons (ps_if (pt_cmpR op_gt (pe_dget hu (pv 0) pe_str (fun _ _=>rfl)) pe_int (nomark _))
    (pss_cons (ps_set (i:=2) sc_law_take.nd rfl (Or.inl rfl) (pe_op op_mod (pe_dget hu (pv 0) pe_str (fun _ _=>rfl)) (pv 1)))
     (pss_cons (ps_dput hu (pv 0) pe_str (pe_op op_fdiv (pe_dget hu (pv 0) pe_str (fun _ _=>rfl)) (pv 1)) rfl) (pss_one (ps_ret (pv 2))))) pss_nil)
   (pss_cons (ps_set (i:=3) sc_law_take.nd rfl (Or.inl rfl) (pe_dget hu (pv 0) pe_str (fun _ _=>rfl)))
   (pss_cons (ps_set (i:=4) sc_law_take.nd rfl (Or.inl rfl) (pe_dget hu (pv 0) pe_str (fun _ _=>rfl)))
   (pss_cons (ps_dput hu (pv 0) pe_str (pe_op op_add (pv 4) pe_int) rfl)
   (pss_cons (ps_set (i:=5) sc_law_take.nd rfl (Or.inl rfl) (pe_op op_add (pe_op op_mul pe_int (pv 4)) pe_int))
   (pss_cons (ps_if (pt_cmpR op_lt (pv 4) (pe_callB call_len_seq (by rfl) T.len PySem.boot_len (pa_cons (pv 3) pa_nil)) (nomark _))
     (pss_cons (ps_set (i:=5) sc_law_take.nd rfl (Or.inl rfl) (pe_ix ix_list (pv 3) (pv 4) (fun _ _=>rfl)))
     (pss_one (ps_if (pt_cmpR op_ge (pe_callB call_abs (by rfl) T.abs PyProof.Rows.boot_abs (pa_cons (pv 5) pa_nil)) (pe_op op_pow pe_int pe_int) (nomark _))
      (pss_cons (ps_dput hu (pv 0) pe_str (pe_op op_fdiv (pe_callB call_abs (by rfl) T.abs PyProof.Rows.boot_abs (pa_cons (pv 5) pa_nil)) (pv 1)) rfl)
       (pss_one (ps_ret (pe_op op_mod (pe_callB call_abs (by rfl) T.abs PyProof.Rows.boot_abs (pa_cons (pv 5) pa_nil)) (pv 1))))) pss_nil)))
     (pss_one (ps_if (pt_cmpR op_gt (pe_callB call_len_seq (by rfl) T.len PySem.boot_len (pa_cons (pv 3) pa_nil)) pe_int (nomark _))
      (pss_one (ps_set (i:=5) sc_law_take.nd rfl (Or.inl rfl) (pe_op op_add (pe_op op_mod (pe_ix ix_list (pv 3) (pe_op op_mod (pv 4) (pe_callB call_len_seq (by rfl) T.len PySem.boot_len (pa_cons (pv 3) pa_nil))) (fun _ _=>rfl)) (pe_op op_pow pe_int pe_int)) (pe_op op_mul pe_int (pv 4))))) pss_nil)))
   (pss_cons (ps_set (i:=6) sc_law_take.nd rfl (Or.inl rfl) (pe_op op_mod (pe_op op_mul (pe_op op_add (pe_op op_add (pe_op op_mod (pv 5) pe_int) (pe_op op_mul pe_int (pv 4))) pe_int) pe_int) pe_int))
   (pss_cons (ps_set (i:=6) sc_law_take.nd rfl (Or.inl rfl) (pe_op op_mod (pe_op op_add (pe_op op_mul (pv 6) (pe_op op_add (pe_op op_mod (pv 6) pe_int) pe_int)) pe_int) pe_int))
   (pss_one (ps_ret (pe_op op_mod (pe_op op_fdiv (pv 6) pe_int) (pv 1))))))))))),?_⟩
  have dg:∀ {H':Hp} {i' l':Int},H' p=some (.dK (penK a i' l'))->DGet H' p (.str "left") (some (.int l')):=fun h=>DGet.k (k:=Sum.inr "left") h
  refine ⟨_,rfl,p,_,rfl,dg hd,_,_,rfl,rfl,_,rfl,?_⟩
  refine ite2 (fun _=>?_) (fun _=>?_)
  ·refine ⟨_,rfl,p,_,rfl,dg hd,_,rfl,_,_,rfl,rfl,hm,?_⟩
   refine ⟨_,rfl,p,_,rfl,dg hd,_,rfl,_,_,rfl,rfl,⟨hm,hm2⟩,_,rfl,p,_,rfl,DPut.k (k:=Sum.inr "left") hd pen_len,_,rfl,?_⟩
   rw [put_left]
   exact k _ _ _ (Int.emod_nonneg _ (by (first|lia|omega))) (Int.emod_lt_of_pos _ hm) ⟨upd_same,seq_upd hd hS,hi⟩
  ·
   refine ⟨_,rfl,p,_,rfl,DGet.k (k:=Sum.inr "script") hd,?_⟩
   refine ⟨_,rfl,p,_,rfl,DGet.k (k:=Sum.inr "at") hd,?_⟩
   refine ⟨_,rfl,_,_,rfl,rfl,_,rfl,p,_,rfl,DPut.k (k:=Sum.inr "at") hd pen_len,?_⟩
   rw [put_at]
   have hd1:(upd H p (.dK (penK a (i + 1) l))) p=some (.dK (penK a (i + 1) l)):=upd_same
   have hS0:=seq_upd (o:=.dK (penK a (i + 1) l)) hd hS
   have hS1:SqL K (upd H p (.dK (penK a (i + 1) l))) a (ns.map V.int):=hS0.sq
   refine ⟨_,rfl,_,_,rfl,rfl,.inl ⟨by decide,by decide⟩,_,_,rfl,rfl,?_⟩
   refine ⟨_,rfl,_,rfl,a,_,rfl,.inl hS1,_,_,rfl,rfl,_,rfl,?_⟩
   have last:∀ (d:Int),0<=d->d < m->Q (.int d) (upd H p (.dK (penK a (i + 1) l))):=fun d h0 h1=>k d _ _ h0 h1 ⟨upd_same,hS0,by (first|lia|omega)⟩
   refine ite2 (fun hlt=>?_) (fun hge=>?_)
   ·rw [decide_eq_true_eq,List.length_map] at hlt
    obtain ⟨c,hc⟩:=at_ns hi hlt
    refine ⟨_,rfl,_,rfl,a,_,_,_,rfl,rfl,hS1,hc,?_⟩
    refine ⟨_,rfl,_,rfl,_,_,rfl,rfl,⟨by decide,by decide,by decide⟩,_,_,rfl,rfl,_,rfl,?_⟩
    refine ite2 (fun _=>?_) (fun _=>?_)
    ·refine ⟨_,rfl,_,rfl,_,rfl,_,_,rfl,rfl,⟨hm,hm2⟩,_,rfl,p,_,rfl,DPut.k (k:=Sum.inr "left") hd1 pen_len,?_⟩
     rw [put_left,upd_upd]
     refine ⟨_,rfl,_,rfl,_,rfl,_,_,rfl,rfl,hm,?_⟩
     exact k _ _ _ (Int.emod_nonneg _ (by (first|lia|omega))) (Int.emod_lt_of_pos _ hm) ⟨upd_same,seq_upd hd hS,by (first|lia|omega)⟩
    ·refine ⟨_,rfl,_,_,rfl,rfl,(by show (0:Int) < 2147483629; decide),_,rfl,_,_,rfl,rfl,.inl ⟨by decide,by decide⟩,_,_,rfl,rfl,_,_,rfl,rfl,_,_,rfl,rfl,.inr ⟨by decide,by decide⟩,_,_,rfl,rfl,(by show (0:Int) < 2147483587; decide),?_⟩
     refine ⟨_,rfl,_,rfl,_,_,rfl,rfl,(by show (0:Int) < 65521; decide),_,_,rfl,rfl,_,_,rfl,rfl,.inl ⟨Int.lt_of_lt_of_le (by decide) (Int.emod_nonneg _ (by decide)),Int.lt_trans (Int.emod_lt_of_pos _ (by decide)) (by decide)⟩,_,_,rfl,rfl,_,_,rfl,rfl,(by show (0:Int) < 2147483563; decide),?_⟩
     refine ⟨_,rfl,_,_,rfl,rfl,⟨by decide,by decide⟩,_,rfl,_,_,rfl,rfl,hm,?_⟩
     exact last _ (Int.emod_nonneg _ (by (first|lia|omega))) (Int.emod_lt_of_pos _ hm)
   ·rw [decide_eq_true_eq,List.length_map] at hge
    refine ⟨_,rfl,a,_,rfl,.inl hS1,_,_,rfl,rfl,_,rfl,?_⟩
    refine ite2 (fun hpos=>?_) (fun _=>?_)
    ·rw [decide_eq_true_eq,List.length_map] at hpos
     have hl0:(0:Int) < ((ns.map V.int).length:Int):=by rw [List.length_map]; exact hpos
     obtain ⟨c,hc⟩:=at_ns (ns:=ns) (i:=i % ((ns.map V.int).length:Int)) (Int.emod_nonneg _ (by (first|lia|omega))) (by rw [List.length_map]; exact Int.emod_lt_of_pos _ hpos)
     refine ⟨_,rfl,_,rfl,_,rfl,a,_,rfl,.inl hS1,_,_,rfl,rfl,hl0,a,_,_,_,rfl,rfl,hS1,hc,?_⟩
     refine ⟨_,_,rfl,rfl,⟨by decide,by decide,by decide⟩,_,_,rfl,rfl,(by show (0:Int) < 10 ^ 17; decide),_,rfl,_,_,rfl,rfl,.inl ⟨by decide,by decide⟩,_,_,rfl,rfl,?_⟩
     refine ⟨_,rfl,_,_,rfl,rfl,(by show (0:Int) < 2147483629; decide),_,rfl,_,_,rfl,rfl,.inl ⟨by decide,by decide⟩,_,_,rfl,rfl,_,_,rfl,rfl,_,_,rfl,rfl,.inr ⟨by decide,by decide⟩,_,_,rfl,rfl,(by show (0:Int) < 2147483587; decide),?_⟩
     refine ⟨_,rfl,_,rfl,_,_,rfl,rfl,(by show (0:Int) < 65521; decide),_,_,rfl,rfl,_,_,rfl,rfl,.inl ⟨Int.lt_of_lt_of_le (by decide) (Int.emod_nonneg _ (by decide)),Int.lt_trans (Int.emod_lt_of_pos _ (by decide)) (by decide)⟩,_,_,rfl,rfl,_,_,rfl,rfl,(by show (0:Int) < 2147483563; decide),?_⟩
     refine ⟨_,rfl,_,_,rfl,rfl,⟨by decide,by decide⟩,_,rfl,_,_,rfl,rfl,hm,?_⟩
     exact last _ (Int.emod_nonneg _ (by (first|lia|omega))) (Int.emod_lt_of_pos _ hm)
    ·refine ⟨_,rfl,_,_,rfl,rfl,(by show (0:Int) < 2147483629; decide),_,rfl,_,_,rfl,rfl,.inl ⟨by decide,by decide⟩,_,_,rfl,rfl,_,_,rfl,rfl,_,_,rfl,rfl,.inr ⟨by decide,by decide⟩,_,_,rfl,rfl,(by show (0:Int) < 2147483587; decide),?_⟩
     refine ⟨_,rfl,_,rfl,_,_,rfl,rfl,(by show (0:Int) < 65521; decide),_,_,rfl,rfl,_,_,rfl,rfl,.inl ⟨Int.lt_of_lt_of_le (by decide) (Int.emod_nonneg _ (by decide)),Int.lt_trans (Int.emod_lt_of_pos _ (by decide)) (by decide)⟩,_,_,rfl,rfl,_,_,rfl,rfl,(by show (0:Int) < 2147483563; decide),?_⟩
     refine ⟨_,rfl,_,_,rfl,rfl,⟨by decide,by decide⟩,_,rfl,_,_,rfl,rfl,hm,?_⟩
     exact last _ (Int.emod_nonneg _ (by (first|lia|omega))) (Int.emod_lt_of_pos _ hm)
structure TakeF (K:PySem.W.Frag) (mg:Str->Option Value) (fT:Addr) (fdT:FuncData):Prop where
 T:TxtP K mg
 F:Fun K "_law_take" "_law_take" s_law_take fT fdT
 mg:mg "_law_take"=some (.ref fT)
 b:Binds K fdT ["_law_pen_here","_law_many"] []
theorem TakeF.ok {fT:Addr} {fdT:FuncData} (h:TakeF K mg fT fdT):FnOk P w K mg base CX0 1 fT fdT ["_law_pen_here","_law_many"] (spTake K):=ok_take h.T h.F
end
end K76
namespace K76
open PySem L2
section
variable {P:Program} {w:World} {K:PySem.W.Frag} {mg:Str->Option Value} {base:Heap}
theorem ok_names {f fT:Addr} {fd fdT:FuncData} (TK:TakeF K mg fT fdT) (hrg:mg "range"=none) (F:Fun K "_law_names" "_law_names" s_law_names f fd):FnOk P w K mg base CX0 2 f fd ["_law_pen_here","_law_many"] (spNames K):=by
 have GT:FnOk P w K mg base CX0 1 fT fdT ["_law_pen_here","_law_many"] (spTake K):=TK.ok
 refine F.ok sc_law_names (fun vs H Q E h=>?_) (fun cdv A outer s H vs Q E hr h=>?_)
 ·obtain ⟨p,a,ns,i,l,n,rfl,_⟩:=h
  rfl
 ·obtain ⟨p,a,ns,i,l,n,rfl,hP,hlen,hn,k⟩:=h
  have hu64:=hr.units
  have big:1000 < sizeLine:=by decide
  have nd:=sc_law_names.nd
  have rest:∃ t,PSs (cxOf CX0 P w K mg base ["_law_pen_here","_law_many","_law_letters","_law_names_here","_law_k","_law_name","_law_j","_law_spare"] "_law_names" (defScope s_law_names) f cdv A outer s H E).nox
    ((forBody ((defBody s_law_names).getD 2 (.Pass ⟨0,0,0,0⟩))).drop 2) t /\
    ∀ (D:Ends) (d:Addr) (xs:List Str) (z:Str) (v4 v6 v7:Option V) (H3:Hp) (i3 l3:Int),Low z->z.length<=5->PenAt K H3 p a ns i3 l3->H3 d=some (.lst (xs.map V.str))->xs.length<=29->(∀ x ∈ xs,nameB x=true) ->
     (∀ (z':Str) (v6 v7:Option V) (H4:Hp) (i4 l4:Int),nameB z'=true->¬ z' ∈ xs->PenAt K H4 p a ns i4 l4->(∀ b o,b ≠ p->b ≠ d->H3 b=some o->H4 b=some o)->H4 d=some (.lst ((xs ++ [z']).map V.str)) ->
      D.nx [some (.ref p),some (.int n),some (.str letters),some (.ref d),v4,some (.str z'),v6,v7] H4) ->
     t D [some (.ref p),some (.int n),some (.str letters),some (.ref d),v4,some (.str z),v6,v7] H3:=by
   refine ⟨_,pss_cons (ps_for PassesOwn.never rfl (pi_range1 rfl hrg (pa_cons (pe_op op_add pe_int (pe_call GT hr (by rfl) TK.mg TK.F.kp TK.b .nil pass0 (pa_cons (pv 0) (pa_cons (pe_op op_sub pe_int (pe_callB call_len_str (by rfl) TK.T.len PySem.boot_len (pa_cons (pv 5) pa_nil))) pa_nil)))) pa_nil)) (pg_name (i:=6) nd rfl (Or.inl rfl))
     (pss_one (ps_set (i:=5) nd rfl (Or.inl rfl) (pe_op op_add_str (pv 5) (pe_ix ix_str (pv 2) (pe_call GT hr (by rfl) TK.mg TK.F.kp TK.b .nil pass0 (pa_cons (pv 0) (pa_cons pe_int pa_nil))) (fun _ _=>rfl))))))
    (pss_cons (ps_set (i:=7) nd rfl (Or.inl rfl) pe_int)
    (pss_cons (ps_while PassesOwn.never (pt_cmpR op_in_seq (pv 5) (pv 3) (by rfl))
     (pss_cons (ps_set (i:=5) nd rfl (Or.inl rfl) (pe_op op_add_str (pe_ix ix_str (pv 2) (pe_op op_mod (pe_op op_fdiv (pv 7) pe_int) pe_int) (fun _ _=>rfl)) (pe_ix ix_str (pv 2) (pe_op op_mod (pv 7) pe_int) (fun _ _=>rfl))))
     (pss_one (ps_set (i:=7) nd rfl (Or.inl rfl) (pe_op op_add (pv 7) pe_int)))))
    (pss_one (ps_expr (pe_bm PySem.F.plainAttrs_list PySem.F.slot_list_append PySem.F.type_list_append mt_append (pv 3) (pa_cons (pv 5) pa_nil)))))),?_⟩
   intro D d xs z v4 v6 v7 H3 i3 l3 hz hz5 P3 hd hxs hnm kk
   refine ⟨_,rfl,_,rfl,z,rfl,by (first|lia|omega),_,_,rfl,rfl,p,a,ns,i3,l3,_,rfl,P3,by (first|lia|omega),by (first|lia|omega),hlen,fun e0 i4 l4 e0a e0b P4=>⟨_,_,rfl,rfl,_,rfl,by (first|lia|omega),by (first|lia|omega),?_⟩⟩
   refine for_range (lo:=0) (fun j σ H'=>∃ (z2:Str) (v6:Option V) (i' l':Int),σ=[some (.ref p),some (.int n),some (.str letters),some (.ref d),v4,some (.str z2),v6,v7]/\Low z2/\z2.length=z.length + j/\H'=upd H3 p (.dK (penK a i' l'))/\PenAt K H' p a ns i' l')
    ⟨z,v6,i4,l4,rfl,hz,rfl,rfl,P4⟩ ?_ ?_
   ·rintro j σ H' hj ⟨z2,v6,i5,l5,rfl,hz2,hl2,rfl,P5⟩
    refine ⟨_,rfl,_,rfl,_,rfl,p,a,ns,i5,l5,26,rfl,P5,by decide,by decide,hlen,fun e i6 l6 ea eb P6=>?_⟩
    obtain ⟨c,hc⟩:=at_some (l:=letters.cps.toList) ea eb
    refine ⟨_,_,c,rfl,rfl,by decide,hc,_,_,rfl,rfl,?_,?_⟩
    ·show z2.length + 1<=sizeLine
     (first|lia|omega)
    ·rw [upd_upd] at P6 ⊢
     refine ⟨_,_,i6,l6,rfl,low_app hz2 (letters_low c (at_mem hc)),?_,rfl,P6⟩
     rw [Str.length_append]
     show z2.length + 1=z.length + (j + 1)
     (first|lia|omega)
   ·rintro σ H' ⟨z2,v6,i5,l5,rfl,hz2,hl2,rfl,P5⟩
    have hd5:=keep_pen (i':=i5) (l':=l5) P3.dc hd (by intro z; cases z)
    have nm2:nameB z2=true:=nameB_of (by (first|lia|omega)) (by (first|lia|omega)) hz2
    refine while_by (fun σ H6=>∃ (z3:Str) (m:Nat),σ=[some (.ref p),some (.int n),some (.str letters),some (.ref d),v4,some (.str z3),v6,some (.int m)]/\H6=upd H3 p (.dK (penK a i5 l5))/\nameB z3=true/\(∀ q,q + 1 < m->combo q ∈ xs)/\(∀ q,m=q + 1->z3=combo q))
     (fun σ _=>match σ with | [_,_,_,_,_,_,_,some (.int m)]=>100 - m.toNat | _=>0) ⟨z2,0,rfl,rfl,nm2,fun q hq=>(by (first|lia|omega)),fun q hq=>(by (first|lia|omega))⟩ ?_ ?_
    ·rintro σ H6 ⟨z3,m,rfl,rfl,nm3,h1,h2⟩
     refine ⟨_,rfl,_,rfl,d,_,rfl,.inl (SqL.of hd5),rfl,flat_strs xs,_,rfl,?_⟩
     rw [if_neg Bool.false_ne_true,inV_strs]
     refine ite2 (fun hin=>?_) (fun hout=>?_)
     ·rw [decide_eq_true_eq] at hin
      have hm:m<=30:=by
       refine combo_bound (xs:=xs) (fun q hq=>?_) (by (first|lia|omega))
       by_cases e:m=q + 1
       ·rw [<-h2 q e]; exact hin
       ·exact h1 q (by (first|lia|omega))
      have d1:0<=(m:Int) / 26 % 26:=Int.emod_nonneg _ (by decide)
      have d2:(m:Int) / 26 % 26 < 26:=Int.emod_lt_of_pos _ (by decide)
      have d3:0<=(m:Int) % 26:=Int.emod_nonneg _ (by decide)
      have d4:(m:Int) % 26 < 26:=Int.emod_lt_of_pos _ (by decide)
      refine ⟨_,rfl,_,rfl,_,_,rfl,rfl,⟨by decide,by decide⟩,_,_,rfl,rfl,(by show (0:Int) < 26; decide),_,_,_,rfl,rfl,by decide,letter_at d1 d2,_,rfl,_,rfl,_,_,rfl,rfl,(by show (0:Int) < 26; decide),_,_,_,rfl,rfl,by decide,letter_at d3 d4,_,_,rfl,rfl,?_,_,rfl,_,_,rfl,rfl,?_⟩
      ·show 1 + 1<=sizeLine
       (first|lia|omega)
      ·have e:(⟨#[97 + ((m:Int) / 26 % 26).toNat]⟩:Str) ++ ⟨#[97 + ((m:Int) % 26).toNat]⟩=combo m:=by
        unfold combo
        rw [show ((m:Int) / 26 % 26).toNat=m / 26 % 26 by (first|lia|omega),show ((m:Int) % 26).toNat=m % 26 by (first|lia|omega)]
       refine ⟨⟨_,m + 1,rfl,rfl,?_,fun q hq=>?_,fun q hq=>?_⟩,?_⟩
       ·rw [e]; exact combo_name m
       ·by_cases e2:m=q + 1
        ·rw [<-h2 q e2]; exact hin
        ·exact h1 q (by (first|lia|omega))
       ·rw [e]
        congr 1
        (first|lia|omega)
       ·show 100 - ((m:Int) + 1).toNat < 100 - (m:Int).toNat
        (first|lia|omega)
     ·rw [decide_eq_true_eq] at hout
      refine ⟨_,rfl,.inl ⟨rfl,_,SqL.of hd5⟩,_,rfl,d,_,_,rfl,rfl,hd5,?_,?_⟩
      ·rw [List.length_map]
       (first|lia|omega)
      ·have pd:d ≠ p:=ne_of hd P3.dc (by intro z; cases z)
       refine kk z3 v6 _ _ i5 l5 nm3 hout (P5.other hd5 (by intro _ _ z; cases z) (by intro _ z; cases z)) (fun b o hb hbd e=>?_) ?_
       ·rw [upd_ne hbd,upd_ne hb]; exact e
       ·rw [List.map_append]; exact upd_same
    ·rintro σ H6 Q1 Q2 hq ⟨v,e1,u,e2,pp,ys,h1,h2,h3,h4,b,h5,h6⟩
     exact ⟨v,e1,u,e2,pp,ys,h1,h2,h3,h4,b,h5,hq _ _ h6⟩
  obtain ⟨trest,hrest,krest⟩:=rest
  refine ⟨_,pss_cons (ps_set (i:=2) nd rfl (Or.inl rfl) pe_str) (pss_cons (ps_set (i:=3) nd rfl (Or.inl rfl) (pe_lst pa_nil))
   (pss_cons (ps_for PassesOwn.never rfl (pi_range1 rfl hrg (pa_cons (pv 1) pa_nil)) (pg_name (i:=4) nd rfl (Or.inl rfl))
    (pss_cons (ps_set (i:=5) nd rfl (Or.inl rfl) pe_str)
    (pss_cons (ps_if (pw_and (pt_cmpR (op_ne_dat hu64) (pv 3) (pe_lst pa_nil) (nomark _)) (pw_and1 (pt_cmpR op_eq (pe_call GT hr (by rfl) TK.mg TK.F.kp TK.b .nil pass0 (pa_cons (pv 0) (pa_cons pe_int pa_nil))) pe_int (nomark _)))).pt
     (pss_one (ps_set (i:=5) nd rfl (Or.inl rfl) (pe_slice_str (pe_ix ix_list (pv 3) (pe_un un_neg pe_int) (fun _ _=>rfl)) po_none (po_some pe_int)))) pss_nil)
    hrest)))
   (pss_one (ps_ret (pv 3))))),?_⟩
  refine ⟨(by show 0<=sizeLine; (first|lia|omega)),fun D hD=>?_⟩
  have sD:=same_upd (o:=.lst []) hD
  refine ⟨_,rfl,_,rfl,by (first|lia|omega),by (first|lia|omega),for_range (lo:=0) (fun j σ H'=>∃ (xs:List Str) (v4 v5 v6 v7:Option V) (i' l':Int),σ=[some (.ref p),some (.int n),some (.str letters),some (.ref D),v4,v5,v6,v7]/\xs.length=j/\xs.Nodup/\(∀ x ∈ xs,nameB x=true)/\PenAt K H' p a ns i' l'/\Keep p H H'/\H' D=some (.lst (xs.map V.str)))
   ⟨[],_,_,_,_,i,l,rfl,rfl,List.nodup_nil,(fun x hx=>nomatch hx),hP.same sD,Keep.of_same sD,upd_same⟩ ?_ ?_⟩
  ·rintro j σ H1 hj ⟨xs,v4,v5,v6,v7,i1,l1,rfl,hl1,nd1,nm1,P1,k1,hd1⟩
   have go:∀ (z:Str) (H3:Hp) (i3 l3:Int) (v4 v6 v7:Option V),Low z->z.length<=5->PenAt K H3 p a ns i3 l3->Keep p H1 H3->H3 D=some (.lst (xs.map V.str))->∀ (W:Ends),
     W.nx=(fun σ H'=>∃ (xs:List Str) (v4 v5 v6 v7:Option V) (i' l':Int),σ=[some (.ref p),some (.int n),some (.str letters),some (.ref D),v4,v5,v6,v7]/\xs.length=j + 1/\xs.Nodup/\(∀ x ∈ xs,nameB x=true)/\PenAt K H' p a ns i' l'/\Keep p H H'/\H' D=some (.lst (xs.map V.str))) ->
     trest W [some (.ref p),some (.int n),some (.str letters),some (.ref D),v4,some (.str z),v6,v7] H3:=by
    intro z H3 i3 l3 v4 v6 v7 hz hz5 P3 k3 hd3 W hW
    refine krest W D xs z v4 v6 v7 H3 i3 l3 hz hz5 P3 hd3 (by (first|lia|omega)) nm1 fun z' v6 v7 H4 i4 l4 nm' nin P4 k4 hd4=>?_
    rw [hW]
    refine ⟨xs ++ [z'],v4,_,v6,v7,i4,l4,rfl,by rw [List.length_append,hl1]; rfl,?_,?_,P4,fun b o hb e=>?_,hd4⟩
    ·exact nd_snoc nd1 nin
    ·intro x hx
     rcases List.mem_append.mp hx with h | h
     ·exact nm1 x h
     ·rw [List.mem_singleton.mp h]; exact nm'
    ·exact k4 b o hb (ne_of_none e hD) (k3 b o hb (k1 b o hb e))
   have low0:Low (Str.ofString ""):=fun c hc=>nomatch hc
   refine ⟨_,rfl,(by show 0<=sizeLine; (first|lia|omega)),fun E hE=>⟨.list (xs.map .str),.list [],?_,?_,?_,rfl,?_,_,rfl,?_⟩⟩
   ·exact .lst (same_upd hE _ _ hd1) (dats_strs _ xs)
   ·exact .lst upd_same .nil
   ·exact lay_strs nm1
   ·show PyData.depthAll (xs.map .str) + 1<=60
    rw [depth_strs]
    decide
   ·have sE:=same_upd (o:=.lst []) hE
    rw [eqv_nil]
    refine ite2 (fun hne=>?_) (fun _=>?_)
    ·refine ⟨_,rfl,p,a,ns,i1,l1,4,rfl,P1.same sE,by decide,by decide,hlen,fun e i2 l2 ea eb P2=>⟨rfl,_,rfl,?_⟩⟩
     have hd2:=keep_pen (i':=i2) (l':=l2) (P1.same sE).dc (sE _ _ hd1) (by intro z; cases z)
     have k2:Keep p H1 (upd (upd H1 E (.lst [])) p (.dK (penK a i2 l2))):=(Keep.of_same sE).trans Keep.upd
     refine ite2 (fun _=>?_) (fun _=>?_)
     ·
      obtain ⟨ys,y,rfl⟩:∃ ys y,xs=ys ++ [y]:=by
       cases xs with
       | nil=>cases hne
       | cons x xs=>exact ⟨_,_,(List.dropLast_concat_getLast (List.cons_ne_nil x xs)).symm⟩
      have hy:=low_of (nm1 y (List.mem_append_right _ List.mem_cons_self))
      refine ⟨_,rfl,_,rfl,D,_,_,V.str y,rfl,rfl,SqL.of hd2,?_,_,rfl,y,rfl,by (first|lia|omega),?_⟩
      ·rw [List.map_append]
       exact atI_last _ _
      ·refine go _ _ i2 l2 _ _ _ (fun c hc=>hy.2.2 c (slice_mem hc)) ?_ P2 k2 hd2 _ rfl
       have f5:=PyProof.Rows.fact_slice_ns y 5
       by_cases h5:(5:Int)<=y.length
       ·have:=f5.1 (by decide) h5
        (first|lia|omega)
       ·have:=f5.2 (by (first|lia|omega))
        (first|lia|omega)
     ·exact go _ _ i2 l2 _ _ _ low0 (by decide) P2 k2 hd2 _ rfl
    ·exact go _ _ i1 l1 _ _ _ low0 (by decide) (P1.same sE) (Keep.of_same sE) (sE _ _ hd1) _ rfl
  ·rintro σ H1 ⟨xs,v4,v5,v6,v7,i1,l1,rfl,hl1,nd1,nm1,P1,k1,hd1⟩
   exact ⟨_,rfl,k H1 D xs i1 l1 P1 k1 hD hd1 (by (first|lia|omega)) nd1 nm1⟩
end
end K76
namespace K76
open PySem L2
structure TxtN (K:PySem.W.Frag) (mg:Str->Option Value):Prop where
 len:mg "len"=none
 isin:mg "isinstance"=none
 str:mg "str"=none
 all:mg "all"=none
 most:∃ t,mg "MOST_LETTERS"=some (.int 6 t)
section
variable {P:Program} {w:World} {K:PySem.W.Frag} {mg:Str->Option Value} {base:Heap}
theorem ok_name {f:Addr} {fd:FuncData} (T:TxtN K mg) (F:Fun K "is_name" "is_name" s_is_name f fd):FnOk P w K mg base CX0 1 f fd ["thing"] (spName K):=by
 refine F.ok sc_is_name (fun vs H Q E h=>?_) (fun cdv A outer s H vs Q E hr h=>?_)
 ·obtain ⟨x,rfl,_⟩:=h
  rfl
 ·obtain ⟨x,rfl,h⟩:=h
  obtain ⟨tk,hmost⟩:=T.most
  refine ⟨_,pss_cons (ps_if (pw_or (pt_not (pt_val (pe_callB call_isinst (by rfl) T.isin PyProof.Rows.boot_isinstance (pa_cons (pv 0) (pa_cons (pe_bltn (v:=.ty "str") (by rfl) T.str PyProof.Rows.boot_str rfl) pa_nil)))))
    (pw_or1 (pt_not (pt_chain op_le op_le pe_int (pe_callB call_len_str (by rfl) T.len PySem.boot_len (pa_cons (pv 0) pa_nil)) (pe_glob (v:=.int 6) (by rfl) hmost ⟨_,rfl⟩))))).pt
    (pss_one (ps_ret pe_bl)) pss_nil)
   (pss_one (ps_ret (pe_callB (call_all_bl rfl) (by rfl) T.all PyProof.Rows.boot_all (pa_cons
    (pe_comp (N:=["letter"]) (σ0:=fun _=>[none]) rfl (CompOk.plain (by decide +kernel) (by decide +kernel) rfl (by decide +kernel)) (fun σ _=>Carry.none _ _ _ ["letter"] σ) (pi_str (pv 0))
     (fun s2 H C fp=>⟨pg_name (i:=0) (show (["letter"]:List Str).Nodup by decide +kernel) rfl (Or.inl rfl),pts_nil,pe_chain op_le_str op_le_str pe_str (pv 0) pe_str⟩)) pa_nil)))),?_⟩
  rcases h with ⟨t,rfl,ht,k⟩ | ⟨⟨ty,h1,h2⟩,k⟩
  ·refine ⟨_,rfl,_,"str",_,_,rfl,TyOf.str t,rfl,_,rfl,?_⟩
   refine iteF ?_
   refine ⟨_,rfl,t,rfl,Nat.le_trans ht (by decide),_,_,rfl,rfl,_,rfl,?_⟩
   have last:∀ (h1:1<=t.length) (h2:t.length<=6),tComp (iStr (tVar 0)) (gName 0) tYes (tChain (fun x y H Q=>∃ i j,x=.str i/\y=.str j/\Q (.bl (!(decide (j.cps.toList < i.cps.toList)))) H) (fun x y H Q=>∃ i j,x=.str i/\y=.str j/\Q (.bl (!(decide (j.cps.toList < i.cps.toList)))) H) (tC (.str "a")) (tVar 0) (tC (.str "z"))) (fun _=>[none]) [some (V.str t)] H
     (fun x H1=>∃ (p:Addr) (bs:List Bool),[x]=[V.ref p]/\SqL K H1 p (bs.map V.bl)/\Q (.bl (bs.all id)) H1):=by
    intro h1 h2
    refine ⟨_,rfl,t,rfl,fun D hD=>⟨fun i m σ' H'=>m=t.cps.size - i/\i<=t.cps.size/\(∃ v,σ'=[v])/\H'=upd H D (.lst ((t.cps.toList.take i).map fun c=>V.bl (lowc c))),⟨_,rfl,Nat.zero_le _,⟨_,rfl⟩,rfl⟩,?_⟩⟩
    rintro i m σ' H' ⟨rfl,hi,⟨v,rfl⟩,rfl⟩
    by_cases hlt:i < t.cps.size
    ·refine .inr ⟨hlt,?_⟩
     rintro x H2 ⟨rfl,c,hc,rfl⟩
     have hc':t.cps.toList[i]? = some c:=by simpa using hc
     have step:∀ b,b=lowc c->∃ acc,(upd H D (.lst ((t.cps.toList.take i).map fun c=>V.bl (lowc c)))) D=some (.lst acc)/\acc.length < sizeLine/\∃ m',m' < t.cps.size - i/\(m'=t.cps.size - (i + 1)/\i + 1<=t.cps.size/\(∃ v,[some (V.str ⟨#[c]⟩)]=[v]) /\
       upd (upd H D (.lst ((t.cps.toList.take i).map fun c=>V.bl (lowc c)))) D (.lst (acc ++ [V.bl b]))=upd H D (.lst ((t.cps.toList.take (i + 1)).map fun c=>V.bl (lowc c)))):=by
      rintro b rfl
      refine ⟨_,upd_same,?_,_,?_,rfl,hlt,⟨_,rfl⟩,?_⟩
      ·rw [List.length_map,List.length_take]
       have:t.length=t.cps.size:=rfl
       have:1000 < sizeLine:=by decide
       (first|lia|omega)
      ·(first|lia|omega)
      ·rw [upd_upd,take_succ_map _ _ _ _ hc']
     refine ⟨_,rfl,_,_,rfl,rfl,_,rfl,?_⟩
     rw [leA]
     refine ite2 (fun ha=>?_) (fun ha=>?_)
     ·refine ⟨_,_,rfl,rfl,?_⟩
      rw [leZ]
      exact step _ (by unfold lowc; rw [ha]; rfl)
     ·exact step _ (by unfold lowc; rw [Bool.not_eq_true] at ha; rw [ha]; rfl)
    ·have e:i=t.cps.size:=by (first|lia|omega)
     subst e
     refine .inl ⟨Nat.le_refl _,D,t.cps.toList.map lowc,rfl,.inl (.inl ?_),?_⟩
     ·rw [upd_same,List.take_of_length_le (by simp),List.map_map]
      rfl
     ·have e2:(t.cps.toList.map lowc).all id=nameB t:=by
       unfold nameB
       rw [List.all_map,decide_eq_true h1,decide_eq_true h2]
       rfl
      rw [e2]
      exact k _ (same_upd hD)
   refine ite2 (fun h1=>?_) (fun h1=>?_)
   ·refine ⟨_,_,rfl,rfl,_,rfl,?_⟩
    rw [decide_eq_true_eq] at h1
    refine ite2 (fun h2=>?_) (fun h2=>?_)
    ·have e:nameB t=false:=by
      unfold nameB
      have:¬ t.length<=6:=by
       intro z
       rw [decide_eq_true (show ((t.length:Nat):Int)<=6 by (first|lia|omega))] at h2
       cases h2
      rw [decide_eq_false this,Bool.and_false,Bool.false_and]
     rw [<-e]
     exact k _ (Same.refl _)
    ·refine last (by (first|lia|omega)) ?_
     by_cases z:t.length<=6
     ·exact z
     ·rw [decide_eq_false (show ¬ ((t.length:Nat):Int)<=6 by (first|lia|omega))] at h2
      exact absurd rfl h2
   ·refine ⟨_,rfl,?_⟩
    refine iteT ?_
    have e:nameB t=false:=by
     unfold nameB
     rw [decide_eq_true_eq] at h1
     rw [decide_eq_false (show ¬ 1<=t.length by (first|lia|omega)),Bool.false_and,Bool.false_and]
    show Q (.bl false) H
    rw [<-e]
    exact k _ (Same.refl _)
  ·refine ⟨_,rfl,_,"str",_,_,rfl,h1,h2,_,rfl,?_⟩
   exact k
end
end K76
namespace K76
open PySem L2
section
variable {P:Program} {w:World} {K:PySem.W.Frag} {mg:Str->Option Value} {base:Heap}
theorem ok_are_rising (h_all:mg "all"=none) (h_list:mg "list"=none) (h_sorted:mg "sorted"=none) (h_set:mg "set"=none) {fN:Addr} {fdN:FuncData} (XN:Fn K mg "is_name" s_is_name ["thing"] fN fdN) (GN:FnOk P w K mg base CX0 1 fN fdN ["thing"] (spName K)) {f:Addr} {fd:FuncData} (F:Fun K "are_rising" "are_rising" s_are_rising f fd):FnOk P w K mg base CX0 2 f fd ["things"] (spRising K):=by
 refine F.ok sc_are_rising (fun vs H Q E h=>?_) (fun cdv A outer s H vs Q E hr h=>?_)
 ·obtain ⟨t,xs,ds,rfl,_⟩:=h
  rfl
 ·obtain ⟨t,xs,ds,rfl,ht,dx,short,few,k⟩:=h
  have nd:=sc_are_rising.nd
  have hu:=hu_of hr
  have hu64:=hr.units
  have big:100000 < sizeLine:=by decide
  refine ⟨_,(pss_one (ps_ret (pe_and (pe_callB (call_all_bl rfl) (by rfl) h_all PyProof.Rows.boot_all (pa_cons (pe_comp (N:=["thing"]) (σ0:=fun _=>[none]) rfl (CompOk.plain (by decide +kernel) (by decide +kernel) rfl (by decide +kernel)) (fun σ _=>Carry.none _ _ _ ["thing"] σ) (pi_seq (pv 0))
   (fun s2 H C fp=>⟨pg_name (i:=0) (show (["thing"]:List Str).Nodup by decide +kernel) rfl (Or.inl rfl),pts_nil,(pe_call GN (hr.mono (by decide)) (by rfl) XN.mg XN.F.kp XN.b .nil pass0 (pa_cons (pv 0) pa_nil))⟩)) pa_nil))
   (pe_one (pe_cmpR (op_eq_dat hu64) (pe_callTy call_list_of (by rfl) h_list PyProof.Rows.boot_list (pa_cons (pv 0) pa_nil)) (pe_callB (call_sorted_set rfl) (by rfl) h_sorted PyProof.Rows.boot_sorted (pa_cons (pe_callTy (call_set_of K rfl rfl) (by rfl) h_set PyProof.Rows.boot_set (pa_cons (pv 0) pa_nil)) pa_nil)) (nomark _)))))),?_⟩
  have seq:∀ H',Same H H'->SqL K H' t xs\/SqT K H' t xs:=fun H' sa=>ht.imp (fun z=>SqL.of (sa _ _ z)) (fun z=>SqT.of (sa _ _ z))
  have dl:=dx.len
  refine ⟨_,rfl,t,rfl,?_⟩
  rcases ht with ht | ht
  ·refine .inl ⟨⟨_,SqL.of ht⟩,read_map over_list (xs:=xs) (fun D i σ H' acc=>∃ v0:Option V,σ=[v0]/\Same H H'/\H' D=some (.lst acc)/\acc=((ds.take i).map nameD).map V.bl/\acc.length=i)
    (by (first|lia|omega)) (fun D hD=>⟨_,rfl,same_upd hD,upd_same,rfl,rfl⟩) (fun D i σ H' acc hD ⟨v0,_,sa,hDD,_,al⟩=>⟨SqL.of (sa _ _ ht),hDD,al⟩) ?_ ?_⟩
   ·rintro D i σ H' acc x B hD ex ⟨v0,rfl,sa,hDD,rfl,al⟩ hB
    obtain ⟨d,ed,hd⟩:=dx.at ex
    have hd':=hd.same sa
    have step:∀ H5,Same H' H5->B [some x] (.bl (nameD d)) H5:=fun H5 s5=>by
     refine hB _ _ _ (s5 _ _ hDD) ⟨_,rfl,fun b o e=>?_,upd_same,?_,by rw [List.length_append,al]; rfl⟩
     ·rw [upd_ne (ne_of_none e hD)]
      exact s5 _ _ (sa _ _ e)
     ·rw [List.take_add_one,ed,List.map_append,List.map_append]
      rfl
    refine ⟨_,rfl,x,rfl,?_⟩
    cases d with
    | str y=>
     cases hd
     exact .inl ⟨y,rfl,short y (List.mem_of_getElem? ed),step⟩
    | _=>exact .inr ⟨hd'.notStr (fun s=>by intro z; cases z),step _ (Same.refl _)⟩
   ·rintro D σ H' acc hD ⟨v0,rfl,sa,hDD,rfl,al⟩
    rw [dl,List.take_length] at hDD
    refine ⟨D,ds.map nameD,rfl,SqL.of hDD,_,rfl,?_⟩
    refine ite2 (fun z=>?_) (fun z=>?_)
    ·obtain ⟨ss,rfl,hn⟩:=names_all z
     obtain rfl:=dx.txt
     rw [List.length_map] at few
     refine ⟨_,rfl,t,_,rfl,seq _ sa,fun l hl=>?_⟩
     have s1:=same_upd (o:=.lst (ss.map V.str)) hl
     refine ⟨_,rfl,t,ss,rfl,seq _ (sa.trans s1),by (first|lia|omega),fun D2 hD2=>⟨D2,ss,rfl,upd_same,by (first|lia|omega),fun l2 ss' hl2 nd' mem' srt=>?_⟩⟩
     have s2:=same_upd (o:=setS P w D2 ss) hD2
     have s3:=same_upd (o:=.lst (ss'.map V.str)) hl2
     refine ⟨_,_,.lst (s3 _ _ (s2 _ _ upd_same)) (dats_strs _ ss),.lst upd_same (dats_strs _ ss'),by simp only [PyData.canLay0]; exact lay_strs hn,by simp only [PyData.canLay0]; exact lay_strs (fun s hs=>hn s ((mem' s).mp hs)),?_,?_⟩
     ·simp only [PyData.depth,depth_strs]
      decide
     ·refine k _ _ (sa.trans (s1.trans (s2.trans s3))) ?_
      rw [eqv_list]
      refine ⟨fun e=>⟨ss,rfl,hn,(rising_iff nd' mem' srt).mp (str_inj e)⟩,?_⟩
      rintro ⟨s5,e5,_,r5⟩
      obtain rfl:=str_inj e5
      rw [(rising_iff nd' mem' srt).mpr r5]
    ·refine k _ _ sa ⟨fun q=>absurd q (by decide),fun ⟨ss,e,hn,_⟩=>?_⟩
     rw [e] at z
     exact absurd (all_names hn) z
  ·refine .inr ⟨⟨_,SqT.of ht⟩,read_map over_tup (xs:=xs) (fun D i σ H' acc=>∃ v0:Option V,σ=[v0]/\Same H H'/\H' D=some (.lst acc)/\acc=((ds.take i).map nameD).map V.bl/\acc.length=i)
    (by (first|lia|omega)) (fun D hD=>⟨_,rfl,same_upd hD,upd_same,rfl,rfl⟩) (fun D i σ H' acc hD ⟨v0,_,sa,hDD,_,al⟩=>⟨SqT.of (sa _ _ ht),hDD,al⟩) ?_ ?_⟩
   ·rintro D i σ H' acc x B hD ex ⟨v0,rfl,sa,hDD,rfl,al⟩ hB
    obtain ⟨d,ed,hd⟩:=dx.at ex
    have hd':=hd.same sa
    have step:∀ H5,Same H' H5->B [some x] (.bl (nameD d)) H5:=fun H5 s5=>by
     refine hB _ _ _ (s5 _ _ hDD) ⟨_,rfl,fun b o e=>?_,upd_same,?_,by rw [List.length_append,al]; rfl⟩
     ·rw [upd_ne (ne_of_none e hD)]
      exact s5 _ _ (sa _ _ e)
     ·rw [List.take_add_one,ed,List.map_append,List.map_append]
      rfl
    refine ⟨_,rfl,x,rfl,?_⟩
    cases d with
    | str y=>
     cases hd
     exact .inl ⟨y,rfl,short y (List.mem_of_getElem? ed),step⟩
    | _=>exact .inr ⟨hd'.notStr (fun s=>by intro z; cases z),step _ (Same.refl _)⟩
   ·rintro D σ H' acc hD ⟨v0,rfl,sa,hDD,rfl,al⟩
    rw [dl,List.take_length] at hDD
    refine ⟨D,ds.map nameD,rfl,SqL.of hDD,_,rfl,?_⟩
    refine ite2 (fun z=>?_) (fun z=>?_)
    ·obtain ⟨ss,rfl,hn⟩:=names_all z
     obtain rfl:=dx.txt
     rw [List.length_map] at few
     refine ⟨_,rfl,t,_,rfl,seq _ sa,fun l hl=>?_⟩
     have s1:=same_upd (o:=.lst (ss.map V.str)) hl
     refine ⟨_,rfl,t,ss,rfl,seq _ (sa.trans s1),by (first|lia|omega),fun D2 hD2=>⟨D2,ss,rfl,upd_same,by (first|lia|omega),fun l2 ss' hl2 nd' mem' srt=>?_⟩⟩
     have s2:=same_upd (o:=setS P w D2 ss) hD2
     have s3:=same_upd (o:=.lst (ss'.map V.str)) hl2
     refine ⟨_,_,.lst (s3 _ _ (s2 _ _ upd_same)) (dats_strs _ ss),.lst upd_same (dats_strs _ ss'),by simp only [PyData.canLay0]; exact lay_strs hn,by simp only [PyData.canLay0]; exact lay_strs (fun s hs=>hn s ((mem' s).mp hs)),?_,?_⟩
     ·simp only [PyData.depth,depth_strs]
      decide
     ·refine k _ _ (sa.trans (s1.trans (s2.trans s3))) ?_
      rw [eqv_list]
      refine ⟨fun e=>⟨ss,rfl,hn,(rising_iff nd' mem' srt).mp (str_inj e)⟩,?_⟩
      rintro ⟨s5,e5,_,r5⟩
      obtain rfl:=str_inj e5
      rw [(rising_iff nd' mem' srt).mpr r5]
    ·refine k _ _ sa ⟨fun q=>absurd q (by decide),fun ⟨ss,e,hn,_⟩=>?_⟩
     rw [e] at z
     exact absurd (all_names hn) z
end
end K76
namespace K76
open PySem L2
def spWritten:Sp:=fun vs H Q _=>∃ n:Int,vs=[.str (numS n)]/\0<=n/\n < 10 ^ 30/\∀ H',Same H H'->Q (.bl true) H'
def spNeed:Sp:=fun vs H Q _=>vs=[.bl true]/\Q .non H
def spNumber:Sp:=fun vs H Q _=>∃ n:Int,vs=[.str (numS n)]/\0<=n/\n < 10 ^ 30/\∀ H',Same H H'->Q (.int n) H'
theorem le0 (c:Nat):(!(decide ((⟨#[c]⟩:Str).cps.toList < (Str.ofString "0").cps.toList)))=decide (48<=c):=by
 show (!(decide (([c]:List Nat) < [48])))=_
 rw [lt1,<-decide_not]
 exact decide_eq_decide.mpr (by (first|lia|omega))
theorem le9 (c:Nat):(!(decide ((Str.ofString "9").cps.toList < (⟨#[c]⟩:Str).cps.toList)))=decide (c<=57):=by
 show (!(decide (([57]:List Nat) < [c])))=_
 rw [lt1,<-decide_not]
 exact decide_eq_decide.mpr (by (first|lia|omega))
section
variable {P:Program} {w:World} {K:PySem.W.Frag} {mg:Str->Option Value} {base:Heap}
theorem ok_is_written (h_all:mg "all"=none) {f:Addr} {fd:FuncData} (F:Fun K "is_written" "is_written" s_is_written f fd):FnOk P w K mg base CX0 1 f fd ["word"] spWritten:=by
 refine F.ok sc_is_written (fun vs H Q E h=>?_) (fun cdv A outer s H vs Q E hr h=>?_)
 ·obtain ⟨n,rfl,_⟩:=h
  rfl
 ·obtain ⟨n,rfl,n0,n1,k⟩:=h
  have nd:=sc_is_written.nd
  refine ⟨_,pss_cons (ps_if (pw_or (pt_not (pt_truthK K rfl (pv 0) (fun _=>rfl))) (pw_or1 (pt_not (pt_val (pe_callB (call_all_bl rfl) (by rfl) h_all PyProof.Rows.boot_all (pa_cons
    (pe_comp (N:=["sign"]) (σ0:=fun _=>[none]) rfl (CompOk.plain (by decide +kernel) (by decide +kernel) rfl (by decide +kernel)) (fun σ _=>Carry.none _ _ _ ["sign"] σ) (pi_str (pv 0))
     (fun s2 H C fp=>⟨pg_name (i:=0) (show (["sign"]:List Str).Nodup by decide +kernel) rfl (Or.inl rfl),pts_nil,pe_chain op_le_str op_le_str pe_str (pv 0) pe_str⟩)) pa_nil)))))).pt
    (pss_one (ps_ret pe_bl)) pss_nil)
   (pss_one (ps_ret (pe_or (pe_cmpR op_eq (pv 0) pe_str (nomark _)) (pe_one (pe_cmpR op_ne (pe_ix ix_str (pv 0) pe_int (fun _ _=>rfl)) pe_str (nomark _)))))),?_⟩
  have ll:=num_len n0 n1
  have dg:=num_digits n0
  have ne:=num_ne n0
  have hd:=num_head n0
  generalize numS n=t at ll dg ne hd
  have tl:t.cps.toList.length=t.length:=Array.length_toList
  have big:1000 < sizeLine:=by decide
  have pos:0 < t.length:=by rw [<-tl]; exact List.length_pos_iff.mpr ne
  refine ⟨_,rfl,true,⟨by (first|lia|omega),by simp; (first|lia|omega)⟩,?_⟩
  refine iteF ?_
  refine ⟨_,rfl,t,rfl,fun D hD=>⟨fun i m σ' H'=>m=t.cps.size - i/\i<=t.cps.size/\(∃ v,σ'=[v])/\H'=upd H D (.lst ((t.cps.toList.take i).map fun c=>V.bl true)),⟨_,rfl,Nat.zero_le _,⟨_,rfl⟩,rfl⟩,?_⟩⟩
  rintro i m σ' H' ⟨rfl,hi,⟨v,rfl⟩,rfl⟩
  by_cases hlt:i < t.cps.size
  ·refine .inr ⟨hlt,?_⟩
   rintro x H2 ⟨rfl,c,hc,rfl⟩
   have hc':t.cps.toList[i]? = some c:=by simpa using hc
   obtain ⟨c1,c2⟩:=dg c (List.mem_of_getElem? hc')
   refine ⟨_,rfl,_,_,rfl,rfl,_,rfl,?_⟩
   rw [le0]
   refine ite2 (fun _=>?_) (fun z=>absurd (decide_eq_true c1) z)
   refine ⟨_,_,rfl,rfl,?_⟩
   rw [le9,decide_eq_true c2]
   refine ⟨_,upd_same,?_,_,?_,rfl,hlt,⟨_,rfl⟩,?_⟩
   ·rw [List.length_map,List.length_take]
    (first|lia|omega)
   ·(first|lia|omega)
   ·rw [upd_upd,take_succ_map _ _ _ _ hc']
  ·have e:i=t.cps.size:=by (first|lia|omega)
   subst e
   refine .inl ⟨Nat.le_refl _,D,t.cps.toList.map fun _=>true,rfl,.inl (.inl ?_),_,rfl,?_⟩
   ·rw [upd_same,List.take_of_length_le (by simp),List.map_map]
    rfl
   ·have e2:(t.cps.toList.map fun _=>true).all id=true:=by rw [List.all_map]; exact List.all_eq_true.mpr fun _ _=>rfl
    rw [e2]
    refine iteF ?_
    have sm:=same_upd (o:=.lst ((t.cps.toList.take t.cps.size).map fun c=>V.bl true)) hD
    refine ⟨_,rfl,rfl,_,rfl,?_⟩
    refine ite2 (fun _=>k _ sm) (fun z=>?_)
    rcases hd with rfl | ⟨c,hc,n48⟩
    ·exact absurd rfl z
    ·refine ⟨_,rfl,t,0,c,rfl,rfl,by (first|lia|omega),atI_nat (j:=0) hc,rfl,?_⟩
     have:(!decide (V.str ⟨#[c]⟩=V.str "0"))=true:=by
      simp only [Bool.not_eq_true',decide_eq_false_iff_not]
      intro e
      injection e with e
      have:=congrArg (fun s:Str=>s.cps.toList) e
      have e2:([c]:List Nat)=[48]:=this
      injection e2 with e2
      exact n48 e2
     rw [this]
     exact k _ sm
theorem ok_need {f:Addr} {fd:FuncData} (F:Fun K "need" "need" s_need f fd):FnOk P w K mg base CX0 1 f fd ["right"] spNeed:=by
 refine F.ok sc_need (fun vs H Q E h=>?_) (fun cdv A outer s H vs Q E hr h=>?_)
 ·obtain ⟨rfl,_⟩:=h
  rfl
 ·obtain ⟨rfl,k⟩:=h
  refine ⟨_,pss_one (ps_if (pt_not (pt_val (pv 0))) pss_never pss_nil),?_⟩
  refine ⟨_,rfl,_,rfl,?_⟩
  exact iteF k
theorem ok_read_number (h_int:mg "int"=none) {fN fW:Addr} {fdN fdW:FuncData} (XN:Fn K mg "need" s_need ["right"] fN fdN) (GN:FnOk P w K mg base CX0 1 fN fdN ["right"] spNeed) (XW:Fn K mg "is_written" s_is_written ["word"] fW fdW) (GW:FnOk P w K mg base CX0 1 fW fdW ["word"] spWritten) {f:Addr} {fd:FuncData} (F:Fun K "read_number" "read_number" s_read_number f fd):FnOk P w K mg base CX0 2 f fd ["word"] spNumber:=by
 refine F.ok sc_read_number (fun vs H Q E h=>?_) (fun cdv A outer s H vs Q E hr h=>?_)
 ·obtain ⟨n,rfl,_⟩:=h
  rfl
 ·obtain ⟨n,rfl,n0,n1,k⟩:=h
  refine ⟨_,pss_cons (ps_expr (pe_call GN (hr.mono (by decide)) (by rfl) XN.mg XN.F.kp XN.b .nil pass0 (pa_cons (pe_call GW (hr.mono (by decide)) (by rfl) XW.mg XW.F.kp XW.b .nil pass0 (pa_cons (pv 0) pa_nil)) pa_nil)))
   (pss_one (ps_ret (pe_callTy call_int_text (by rfl) h_int PyProof.Rows.boot_int (pa_cons (pv 0) pa_nil)))),?_⟩
  refine ⟨_,rfl,n,rfl,n0,n1,fun H1 s1=>⟨rfl,?_⟩⟩
  exact ⟨_,rfl,_,n,rfl,num_back n0 n1,Nat.le_trans (num_len n0 n1) (by decide),k _ s1⟩
end
end K76
namespace K76
open PySem L2
section
variable {P:Program} {w:World} {K:PySem.W.Frag} {mg:Str->Option Value} {base:Heap}
theorem ok_prices_text {f:Addr} {fd:FuncData} (F:Fun K "prices_text" "prices_text" s_prices_text f fd):FnOk P w K mg base CX0 1 f fd ["prices"] spPrT:=by
 refine F.ok sc_prices_text (fun vs H Q E h=>?_) (fun cdv A outer s H vs Q E hr h=>?_)
 ·obtain ⟨t,us,gs,rfl,_⟩:=h
  rfl
 ·obtain ⟨t,us,gs,rfl,ht,du,short,few,k⟩:=h
  have big:100000 < sizeLine:=by decide
  have c1:(Str.ofString "=").length=1:=rfl
  refine ⟨_,(pss_one (ps_ret (pe_bm PySem.F.plainAttrs_str PySem.F.slot_str_join PySem.F.type_str_join mt_join pe_str (pa_cons (pe_comp (N:=["place","price"]) (σ0:=fun _=>[none,none]) rfl (CompOk.plain (by decide +kernel) (by decide +kernel) rfl (by decide +kernel)) (fun σ _=>Carry.none _ _ _ ["place","price"] σ) (pi_tup (pv 0))
   (fun s2 H C fp=>⟨(pg_tupK K rfl (n:=2) rfl (pgs_cons (pg_name (i:=0) (show (["place","price"]:List Str).Nodup by decide +kernel) rfl (Or.inl rfl)) (pgs_cons (pg_name (i:=1) (show (["place","price"]:List Str).Nodup by decide +kernel) rfl (Or.inl rfl)) pgs_nil))),pts_nil,(pe_fstr (pj_cons (pe_fmt (pv 0)) (pj_cons pe_str (pj_cons (pe_fmt (pv 1)) pj_nil))))⟩)) pa_nil)))),?_⟩
  have ul:=du.len
  rw [List.length_map] at ul
  refine ⟨rfl,_,rfl,t,rfl,⟨_,SqT.of ht⟩,?_⟩
  refine read_map over_tup (xs:=us) (fun D i σ' H' acc=>∃ v0 v1:Option V,σ'=[v0,v1]/\Same H H'/\H' D=some (.lst acc)/\acc=((gs.take i).map prW).map V.str/\acc.length=i)
   (by (first|lia|omega)) (fun D hD=>⟨_,_,rfl,same_upd hD,upd_same,rfl,rfl⟩) (fun D i σ' H' acc hD ⟨v0,v1,_,sa,hDD,_,al⟩=>⟨SqT.of (sa _ _ ht),hDD,al⟩) ?_ ?_
  ·rintro D i σ' H' acc x B hD ex ⟨v0,v1,rfl,sa,hDD,rfl,al⟩ hB
   obtain ⟨u,tt,eu,rfl,htt⟩:=dats_row du ex
   obtain ⟨u0,u1,u2⟩:=short u (List.mem_of_getElem? eu)
   have un:=num_len u1 u2
   refine ⟨tt,_,rfl,SqT.of (sa _ _ htt),rfl,_,_,rfl,_,_,rfl,rfl,?_⟩
   refine ⟨_,rfl,.inl ⟨_,rfl,by (first|lia|omega),_,rfl,by rw [str_empty]; (first|lia|omega),_,rfl,by rw [app_len,str_empty]; (first|lia|omega),_,rfl,.inr ⟨_,rfl,num_log u1 u2,_,rfl,by rw [app_len,app_len,str_empty]; show _ + _ + (numS u.2).length<=_; (first|lia|omega),by rw [app_len,app_len,str_empty]; show _ + _ + (numS u.2).length<=_; (first|lia|omega),?_⟩⟩⟩
   rw [str_empty]
   refine hB _ _ _ hDD ⟨_,_,rfl,fun b o e=>by rw [upd_ne (ne_of_none e hD)]; exact sa _ _ e,upd_same,?_,by rw [List.length_append,al]; rfl⟩
   rw [List.take_add_one,eu,List.map_append,List.map_append]
   rfl
  ·rintro D σ' H' acc hD ⟨v0,v1,rfl,sa,hDD,rfl,al⟩
   rw [ul,List.take_length] at hDD
   refine ⟨_,D,gs.map prW,rfl,rfl,hDD,by decide,?_,k _ sa⟩
   have:=sum_leB (B:=50) (ss:=gs.map prW) fun p hp=>by
    obtain ⟨g,hg,rfl⟩:=List.mem_map.mp hp
    exact prW_len (short g hg)
   rw [List.length_map] at this ⊢
   (first|lia|omega)
theorem ok_law_prices_text (h_str:mg "str"=none) {f:Addr} {fd:FuncData} (F:Fun K "_law_prices_text" "_law_prices_text" s_law_prices_text f fd):FnOk P w K mg base CX0 1 f fd ["_law_prices_here"] spPrT:=by
 refine F.ok sc_law_prices_text (fun vs H Q E h=>?_) (fun cdv A outer s H vs Q E hr h=>?_)
 ·obtain ⟨t,us,gs,rfl,_⟩:=h
  rfl
 ·obtain ⟨t,us,gs,rfl,ht,du,short,few,k⟩:=h
  have big:100000 < sizeLine:=by decide
  have c1:(Str.ofString "=").length=1:=rfl
  refine ⟨_,(pss_one (ps_ret (pe_bm PySem.F.plainAttrs_str PySem.F.slot_str_join PySem.F.type_str_join mt_join pe_str (pa_cons (pe_comp (N:=["_law_place","_law_price"]) (σ0:=fun _=>[none,none]) rfl (CompOk.plain (by decide +kernel) (by decide +kernel) rfl (by decide +kernel)) (fun σ _=>Carry.none _ _ _ ["_law_place","_law_price"] σ) (pi_tup (pv 0))
   (fun s2 H C fp=>⟨(pg_tupK K rfl (n:=2) rfl (pgs_cons (pg_name (i:=0) (show (["_law_place","_law_price"]:List Str).Nodup by decide +kernel) rfl (Or.inl rfl)) (pgs_cons (pg_name (i:=1) (show (["_law_place","_law_price"]:List Str).Nodup by decide +kernel) rfl (Or.inl rfl)) pgs_nil))),pts_nil,(pe_op op_add_str (pe_op op_add_str (pv 0) pe_str) (pe_callTy call_str_int (by rfl) h_str PyProof.Rows.boot_str (pa_cons (pv 1) pa_nil)))⟩)) pa_nil)))),?_⟩
  have ul:=du.len
  rw [List.length_map] at ul
  refine ⟨rfl,_,rfl,t,rfl,⟨_,SqT.of ht⟩,?_⟩
  refine read_map over_tup (xs:=us) (fun D i σ' H' acc=>∃ v0 v1:Option V,σ'=[v0,v1]/\Same H H'/\H' D=some (.lst acc)/\acc=((gs.take i).map prW).map V.str/\acc.length=i)
   (by (first|lia|omega)) (fun D hD=>⟨_,_,rfl,same_upd hD,upd_same,rfl,rfl⟩) (fun D i σ' H' acc hD ⟨v0,v1,_,sa,hDD,_,al⟩=>⟨SqT.of (sa _ _ ht),hDD,al⟩) ?_ ?_
  ·rintro D i σ' H' acc x B hD ex ⟨v0,v1,rfl,sa,hDD,rfl,al⟩ hB
   obtain ⟨u,tt,eu,rfl,htt⟩:=dats_row du ex
   obtain ⟨u0,u1,u2⟩:=short u (List.mem_of_getElem? eu)
   have un:=num_len u1 u2
   refine ⟨tt,_,rfl,SqT.of (sa _ _ htt),rfl,_,_,rfl,_,_,rfl,rfl,?_⟩
   refine ⟨_,rfl,_,_,rfl,rfl,by (first|lia|omega),_,rfl,_,rfl,num_log u1 u2,_,_,rfl,rfl,by rw [app_len]; show _ + _ + (numS u.2).length<=_; (first|lia|omega),?_⟩
   refine hB _ _ _ hDD ⟨_,_,rfl,fun b o e=>by rw [upd_ne (ne_of_none e hD)]; exact sa _ _ e,upd_same,?_,by rw [List.length_append,al]; rfl⟩
   rw [List.take_add_one,eu,List.map_append,List.map_append]
   rfl
  ·rintro D σ' H' acc hD ⟨v0,v1,rfl,sa,hDD,rfl,al⟩
   rw [ul,List.take_length] at hDD
   refine ⟨_,D,gs.map prW,rfl,rfl,hDD,by decide,?_,k _ sa⟩
   have:=sum_leB (B:=50) (ss:=gs.map prW) fun p hp=>by
    obtain ⟨g,hg,rfl⟩:=List.mem_map.mp hp
    exact prW_len (short g hg)
   rw [List.length_map] at this ⊢
   (first|lia|omega)
end
end K76
namespace K76
open PySem L2
section
variable {P:Program} {w:World} {K:PySem.W.Frag} {mg:Str->Option Value} {base:Heap}
theorem ok_read_rows (h_all:mg "all"=none) (h_len:mg "len"=none) (h_tuple:mg "tuple"=none) {fN fR:Addr} {fdN fdR:FuncData} (XN:Fn K mg "need" s_need ["right"] fN fdN) (GN:FnOk P w K mg base CX0 1 fN fdN ["right"] spNeed) (XR:Fn K mg "are_rising" s_are_rising ["things"] fR fdR) (GR:FnOk P w K mg base CX0 2 fR fdR ["things"] (spRising K)) {f:Addr} {fd:FuncData} (F:Fun K "read_rows" "read_rows" s_read_rows f fd):FnOk P w K mg base CX0 3 f fd ["text","mark"] spRowsT:=by
 refine F.ok sc_read_rows (fun vs H Q E h=>?_) (fun cdv A outer s H vs Q E hr h=>?_)
 ·obtain ⟨c,rs,rfl,_⟩:=h
  rfl
 ·obtain ⟨c,rs,rfl,ok,k⟩:=h
  have nd:=sc_read_rows.nd
  have big:100000 < sizeLine:=by decide
  refine ⟨_,(pss_cons (ps_set (i:=2) nd rfl (Or.inl rfl) (pe_callTy call_tuple_of (by rfl) h_tuple PyProof.Rows.boot_tuple (pa_cons (pe_comp (N:=["word","mark"]) (σ0:=fun σ=>[none,some 1].map fun j=>j.bind fun j=>(σ[j]?).join) rfl (CompOk.caught (by rfl) (by decide +kernel) rfl (by decide +kernel) (by intro y hy; simp only [List.mem_cons,List.not_mem_nil,or_false] at hy; rcases hy with rfl <;> rfl)
   (by intro y hy e; simp only [List.mem_cons,List.not_mem_nil,or_false] at hy; rcases hy with rfl | rfl | rfl | rfl <;> first | exact ⟨_,rfl⟩ | cases e)) (fun σ _=>Carry.of [none,some 1] rfl (by
   intro i j x h1 h2
   match i,h1,h2 with
   | 0,_,h2=>cases h2
   | 1,h1,h2=>cases h1; cases h2; exact ⟨rfl,.inl rfl,.inl rfl⟩
   | n + 2,h1,_=>cases h1)) (pi_list (pe_bm PySem.F.plainAttrs_str PySem.F.slot_str_split PySem.F.type_str_split mt_split (pv 0) (pa_cons pe_str pa_nil)))
   (fun s2 H C fp=>⟨(pg_name (i:=0) (show (["word","mark"]:List Str).Nodup by decide +kernel) rfl (Or.inl rfl)),pts_nil,(pe_callTy (call_tuple_ofK K rfl) (by rfl) h_tuple PyProof.Rows.boot_tuple (pa_cons (pe_bmK K rfl PySem.F.plainAttrs_str PySem.F.slot_str_split PySem.F.type_str_split mt_split (pv 0) (pa_cons (pv 1) pa_nil)) pa_nil))⟩)) pa_nil)))
   (pss_cons (ps_expr (pe_call GN (hr.mono (by decide)) (by rfl) XN.mg XN.F.kp XN.b .nil pass0 (pa_cons (pe_callB (call_all_bl rfl) (by rfl) h_all PyProof.Rows.boot_all (pa_cons (pe_comp (N:=["row"]) (σ0:=fun _=>[none]) rfl (CompOk.plain (by decide +kernel) (by decide +kernel) rfl (by decide +kernel)) (fun σ _=>Carry.none _ _ _ ["row"] σ) (pi_tup (pv 2))
   (fun s2 H C fp=>⟨(pg_name (i:=0) (show (["row"]:List Str).Nodup by decide +kernel) rfl (Or.inl rfl)),pts_nil,(pe_cmpR op_eq (pe_callB (call_len_seqK K rfl) (by rfl) h_len PySem.boot_len (pa_cons (pv 0) pa_nil)) pe_int (nomark _))⟩)) pa_nil)) pa_nil)))
   (pss_cons (ps_expr (pe_call GN (hr.mono (by decide)) (by rfl) XN.mg XN.F.kp XN.b .nil pass0 (pa_cons (pe_call GR (hr.mono (by decide)) (by rfl) XR.mg XR.F.kp XR.b .nil pass0 (pa_cons (pe_comp (N:=["place","word"]) (σ0:=fun _=>[none,none]) rfl (CompOk.plain (by decide +kernel) (by decide +kernel) rfl (by decide +kernel)) (fun σ _=>Carry.none _ _ _ ["place","word"] σ) (pi_tup (pv 2))
   (fun s2 H C fp=>⟨(pg_tupK K rfl (n:=2) rfl (pgs_cons (pg_name (i:=0) (show (["place","word"]:List Str).Nodup by decide +kernel) rfl (Or.inl rfl)) (pgs_cons (pg_name (i:=1) (show (["place","word"]:List Str).Nodup by decide +kernel) rfl (Or.inl rfl)) pgs_nil))),pts_nil,(pv 0)⟩)) pa_nil)) pa_nil)))
   (pss_one (ps_ret (pv 2)))))),?_⟩
  have l9:=ok.l9
  have tl:(Txt.join " " (rs.map (rowW ⟨#[c]⟩))).length<=1000:=by
   have:=join_len (y:=" ") (B:=60) (ps:=rs.map (rowW ⟨#[c]⟩)) fun p hp=>by
    obtain ⟨r,hr,rfl⟩:=List.mem_map.mp hp
    exact rowW_len ok hr
   have e:(Str.ofString " ").length=1:=rfl
   rw [e,List.length_map] at this
   (first|lia|omega)
  have sp:=rows_split ok
  refine ⟨_,rfl,rfl,_,_,rfl,rfl,rfl,by (first|lia|omega),by rw [sp,List.length_map]; (first|lia|omega),fun L hL=>?_⟩
  rw [sp]
  have sL:=same_upd (o:=.lst ((rs.map (rowW ⟨#[c]⟩)).map V.str)) hL
  have hLL:(upd H L (.lst ((rs.map (rowW ⟨#[c]⟩)).map V.str))) L=some (.lst ((rs.map (rowW ⟨#[c]⟩)).map V.str)):=upd_same
  generalize upd H L (.lst ((rs.map (rowW ⟨#[c]⟩)).map V.str))=H1 at sL hLL
  refine ⟨L,rfl,⟨_,SqL.of hLL⟩,?_⟩
  refine read_map over_list (xs:=(rs.map (rowW ⟨#[c]⟩)).map V.str) (fun D i σ' H' acc=>∃ v0:Option V,σ'=[v0,some (.str ⟨#[c]⟩)]/\Same H1 H'/\H' D=some (.lst acc)/\Dats H' acc ((rs.take i).map pairD)/\acc.length=i)
   (by rw [List.length_map,List.length_map]; (first|lia|omega)) (fun D hD=>⟨_,rfl,same_upd hD,upd_same,.nil,rfl⟩) (fun D i σ' H' acc hD ⟨v0,_,sa,hDD,_,al⟩=>⟨SqL.of (sa _ _ hLL),hDD,al⟩) ?_ ?_
  ·rintro D i σ' H' acc x B hD ex ⟨v0,rfl,sa,hDD,dd,al⟩ hB
   obtain ⟨r,er,rfl⟩:∃ r,rs[i]? = some r/\x=.str (rowW ⟨#[c]⟩ r):=by
    rw [List.getElem?_map,List.getElem?_map] at ex
    cases z:rs[i]? with
    | none=>rw [z] at ex; cases ex
    | some r=>rw [z] at ex; exact ⟨r,rfl,(Option.some.inj ex).symm⟩
   have hr':=List.mem_of_getElem? er
   have s2:=row_split ok hr'
   refine ⟨_,rfl,rfl,_,rfl,_,_,rfl,rfl,rfl,by have:=rowW_len ok hr'; (first|lia|omega),by rw [s2]; show 2<=100000; decide,fun T hT=>?_⟩
   rw [s2]
   refine ⟨T,_,rfl,.inl ⟨SqL.of upd_same,fun T2 hT2=>?_⟩⟩
   have q1:=same_upd (o:=.lst ([r.1,r.2].map V.str)) hT
   have q2:=same_upd (o:=.tup ([r.1,r.2].map V.str)) hT2
   have q:=q1.trans q2
   have hT3:(upd (upd H' T (.lst ([r.1,r.2].map V.str))) T2 (.tup ([r.1,r.2].map V.str))) T2=some (.tup [.str r.1,.str r.2]):=upd_same
   generalize upd (upd H' T (.lst ([r.1,r.2].map V.str))) T2 (.tup ([r.1,r.2].map V.str))=H5 at q hT3
   have d5:=q _ _ hDD
   refine hB _ _ _ d5 ⟨_,rfl,fun b o e=>by rw [upd_ne (ne_of_none e hD)]; exact q _ _ (sa _ _ e),upd_same,?_,by rw [List.length_append,al]; rfl⟩
   rw [List.take_add_one,er,List.map_append]
   have kp:∀ b o,H5 b=some o->(∃ vs,o=.tup vs\/o=.lst vs)->b ≠ D->(upd H5 D (.lst (acc ++ [V.ref T2]))) b=some o:=fun b o e _ hb=>by rw [upd_ne hb]; exact e
   refine dats_app ?_ (.cons (pairD_of (by rw [upd_ne (by intro z; subst z; rw [d5] at hT3; cases hT3)]; exact hT3)) .nil)
   exact pair_dats dd fun b ys e=>by rw [upd_ne (by intro z; subst z; rw [hDD] at e; cases e)]; exact q _ _ e
  ·rintro D σ' H' acc hD ⟨v0,rfl,sa,hDD,dd,al⟩
   rw [List.length_map,List.length_map] at dd al
   rw [List.take_length] at dd
   refine ⟨D,_,rfl,.inl ⟨SqL.of hDD,fun T hT=>?_⟩⟩
   have q:=same_upd (o:=.tup acc) hT
   have hTT:(upd H' T (.tup acc)) T=some (.tup acc):=upd_same
   have dT:Dats (upd H' T (.tup acc)) acc (rs.map pairD):=dd.mono fun a o e _=>q a o e
   have s3:=sL.trans (sa.trans q)
   generalize upd H' T (.tup acc)=H2 at q hTT dT s3
   refine ⟨_,rfl,T,rfl,⟨_,SqT.of hTT⟩,?_⟩
   refine read_map over_tup (xs:=acc) (fun D i σ' H' ac=>∃ v0:Option V,σ'=[v0]/\Same H2 H'/\H' D=some (.lst ac)/\ac=((rs.take i).map fun _=>true).map V.bl/\ac.length=i)
    (by (first|lia|omega)) (fun D hD=>⟨_,rfl,same_upd hD,upd_same,rfl,rfl⟩) (fun D i σ' H' ac hD ⟨v0,_,sa,hDD,_,al⟩=>⟨SqT.of (sa _ _ hTT),hDD,al⟩) ?_ ?_
   ·rintro D2 i σ' H3 ac x B hD2 ex ⟨v0,rfl,sb,hD3,rfl,al2⟩ hB
    obtain ⟨u,tt,eu,rfl,htt⟩:=dats_pair dT ex
    refine ⟨_,rfl,tt,_,rfl,.inr (SqT.of (sb _ _ htt)),rfl,?_⟩
    refine hB _ _ _ hD3 ⟨_,rfl,fun b o e=>by rw [upd_ne (ne_of_none e hD2)]; exact sb _ _ e,upd_same,?_,by rw [List.length_append,al2]; rfl⟩
    rw [List.take_add_one,eu,List.map_append,List.map_append]
    rfl
   ·rintro D2 σ' H3 ac hD2 ⟨v0,rfl,sb,hD3,rfl,al2⟩
    refine ⟨D2,_,rfl,SqL.of hD3,?_⟩
    have e2:((rs.take acc.length).map fun _=>true).all id=true:=by rw [List.all_map]; exact List.all_eq_true.mpr fun _ _=>rfl
    rw [e2]
    refine ⟨rfl,?_⟩
    have dT3:Dats H3 acc (rs.map pairD):=dT.mono fun a o e _=>sb a o e
    refine ⟨_,rfl,T,rfl,⟨_,SqT.of (sb _ _ hTT)⟩,?_⟩
    refine read_map over_tup (xs:=acc) (fun D i σ' H' ac=>∃ v0 v1:Option V,σ'=[v0,v1]/\Same H3 H'/\H' D=some (.lst ac)/\ac=((rs.map (·.1)).take i).map V.str/\ac.length=i)
     (by (first|lia|omega)) (fun D hD=>⟨_,_,rfl,same_upd hD,upd_same,rfl,rfl⟩) (fun D i σ' H' ac hD ⟨v0,v1,_,sa,hDD,_,al⟩=>⟨SqT.of (sa _ _ (sb _ _ hTT)),hDD,al⟩) ?_ ?_
    ·rintro D4 i σ' H4 ac x B hD4 ex ⟨v0,v1,rfl,sc,hD5,rfl,al3⟩ hB
     obtain ⟨u,tt,eu,rfl,htt⟩:=dats_pair dT3 ex
     refine ⟨tt,_,rfl,SqT.of (sc _ _ htt),rfl,_,_,rfl,_,_,rfl,rfl,?_⟩
     refine ⟨_,rfl,hB _ _ _ hD5 ⟨_,_,rfl,fun b o e=>by rw [upd_ne (ne_of_none e hD4)]; exact sc _ _ e,upd_same,?_,by rw [List.length_append,al3]; rfl⟩⟩
     rw [List.take_add_one,List.getElem?_map,eu,List.map_append]
     rfl
    ·rintro D4 σ' H4 ac hD4 ⟨v0,v1,rfl,sc,hD5,rfl,al3⟩
     have la:acc.length=(rs.map (·.1)).length:=by rw [List.length_map]; exact al
     rw [la,List.take_length] at hD5
     refine ⟨D4,_,(rs.map (·.1)).map PyData.str,rfl,.inl hD5,dats_strs _ _,fun y hy=>?_,by rw [List.length_map,List.length_map]; (first|lia|omega),fun b H5 s5 hb=>?_⟩
     ·obtain ⟨z,hz,e⟩:=List.mem_map.mp hy
      injection e with e
      subst e
      obtain ⟨r,hr',rfl⟩:=List.mem_map.mp hz
      exact Nat.le_trans (name_len (ok.nm r hr')) (by decide)
     ·have bt:b=true:=hb.mpr ⟨rs.map (·.1),rfl,fun y hy=>by obtain ⟨r,hr',rfl⟩:=List.mem_map.mp hy; exact ok.nm r hr',ok.ri⟩
      subst bt
      refine ⟨rfl,_,rfl,?_⟩
      exact k H5 T acc (s3.trans (sb.trans (sc.trans s5))) (s5 _ _ (sc _ _ (sb _ _ hTT))) (dT3.mono fun a o e _=>s5 _ _ (sc _ _ e))
end
end K76
namespace K76
open PySem L2
section
variable {P:Program} {w:World} {K:PySem.W.Frag} {mg:Str->Option Value} {base:Heap}
theorem ok_read_prices (h_tuple:mg "tuple"=none) {fW fB:Addr} {fdW fdB:FuncData} (XW:Fn K mg "read_rows" s_read_rows ["text","mark"] fW fdW) (GW:FnOk P w K mg base CX0 3 fW fdW ["text","mark"] spRowsT) (XB:Fn K mg "read_number" s_read_number ["word"] fB fdB) (GB:FnOk P w K mg base CX0 2 fB fdB ["word"] spNumber) {f:Addr} {fd:FuncData} (F:Fun K "read_prices" "read_prices" s_read_prices f fd):FnOk P w K mg base CX0 4 f fd ["text"] spPrR:=by
 refine F.ok sc_read_prices (fun vs H Q E h=>?_) (fun cdv A outer s H vs Q E hr h=>?_)
 ·obtain ⟨rs,rfl,_⟩:=h
  rfl
 ·obtain ⟨rs,rfl,r1,r2,r3,r4,k⟩:=h
  have big:100000 < sizeLine:=by decide
  refine ⟨_,(pss_one (ps_ret (pe_callTy call_tuple_of (by rfl) h_tuple PyProof.Rows.boot_tuple (pa_cons (pe_comp (N:=["place","word"]) (σ0:=fun _=>[none,none]) rfl (CompOk.plain (by decide +kernel) (by decide +kernel) rfl (by decide +kernel)) (fun σ _=>Carry.none _ _ _ ["place","word"] σ) (pi_tup (pe_call GW (hr.mono (by decide)) (by rfl) XW.mg XW.F.kp XW.b .nil pass0 (pa_cons (pv 0) (pa_cons pe_str pa_nil))))
   (fun s2 H C fp=>⟨(pg_tupK K rfl (n:=2) rfl (pgs_cons (pg_name (i:=0) (show (["place","word"]:List Str).Nodup by decide +kernel) rfl (Or.inl rfl)) (pgs_cons (pg_name (i:=1) (show (["place","word"]:List Str).Nodup by decide +kernel) rfl (Or.inl rfl)) pgs_nil))),pts_nil,(pe_tup (pa_cons (pv 0) (pa_cons (pe_call GB (hr.mono (by decide)) (by rfl) XB.mg XB.F.kp XB.b .nil pass0 (pa_cons (pv 1) pa_nil)) pa_nil)))⟩)) pa_nil)))),?_⟩
  refine ⟨_,rfl,61,prP rs,by rw [prS_rows]; rfl,pr_rows r1 r2 r3 r4,fun H1 t us s1 ht du=>?_⟩
  have ul:=du.len
  rw [List.length_map] at ul
  have pl:(prP rs).length=rs.length:=by unfold prP; rw [List.length_map]
  refine ⟨t,rfl,⟨_,SqT.of ht⟩,?_⟩
  refine read_map over_tup (xs:=us) (fun D i σ' H' acc=>∃ v0 v1:Option V,σ'=[v0,v1]/\Same H1 H'/\H' D=some (.lst acc)/\Dats H' acc ((rs.take i).map rowD)/\acc.length=i)
   (by (first|lia|omega)) (fun D hD=>⟨_,_,rfl,same_upd hD,upd_same,.nil,rfl⟩) (fun D i σ' H' acc hD ⟨v0,v1,_,sa,hDD,_,al⟩=>⟨SqT.of (sa _ _ ht),hDD,al⟩) ?_ ?_
  ·rintro D i σ' H' acc x B hD ex ⟨v0,v1,rfl,sa,hDD,dd,al⟩ hB
   obtain ⟨u,tt,eu,rfl,htt⟩:=dats_pair du ex
   obtain ⟨r,er,rfl⟩:∃ r,rs[i]? = some r/\u=(r.1,numS r.2):=by
    unfold prP at eu
    rw [List.getElem?_map] at eu
    cases z:rs[i]? with
    | none=>rw [z] at eu; cases eu
    | some r=>rw [z] at eu; exact ⟨r,rfl,(Option.some.inj eu).symm⟩
   obtain ⟨_,n0,n1⟩:=r1 r (List.mem_of_getElem? er)
   refine ⟨tt,_,rfl,SqT.of (sa _ _ htt),rfl,_,_,rfl,_,_,rfl,rfl,?_⟩
   refine ⟨_,rfl,_,rfl,r.2,rfl,n0,n1,fun H5 s5=>⟨(by show 2<=sizeLine; (first|lia|omega)),fun T hT=>?_⟩⟩
   have q:=s5.trans (same_upd (o:=.tup [.str r.1,.int r.2]) hT)
   have hTT:(upd H5 T (.tup [.str r.1,.int r.2])) T=some (.tup [.str r.1,.int r.2]):=upd_same
   generalize upd H5 T (.tup [.str r.1,.int r.2])=H6 at q hTT
   have d6:=q _ _ hDD
   refine hB _ _ _ d6 ⟨_,_,rfl,fun b o e=>by rw [upd_ne (ne_of_none e hD)]; exact q _ _ (sa _ _ e),upd_same,?_,by rw [List.length_append,al]; rfl⟩
   rw [List.take_add_one,er,List.map_append]
   refine dats_app (row_dats dd fun b ys e=>?_) (.cons (rowD_of (u:=r) (by rw [upd_ne (by intro z; subst z; rw [d6] at hTT; cases hTT)]; exact hTT)) .nil)
   rw [upd_ne (by intro z; subst z; rw [hDD] at e; cases e)]
   exact q _ _ e
  ·rintro D σ' H' acc hD ⟨v0,v1,rfl,sa,hDD,dd,al⟩
   rw [ul,pl,List.take_length] at dd
   refine ⟨D,_,rfl,.inl ⟨SqL.of hDD,fun T hT=>?_⟩⟩
   have q:=same_upd (o:=.tup acc) hT
   exact k _ T acc (s1.trans (sa.trans q)) upd_same (row_dats dd fun b ys e=>q _ _ e)
end
end K76
namespace K76
open PySem L2
section
variable {P:Program} {w:World} {K:PySem.W.Frag} {mg:Str->Option Value} {base:Heap}
theorem ok_law_amount {fT:Addr} {fdT:FuncData} (TK:TakeF K mg fT fdT) (GT:FnOk P w K mg base CX0 1 fT fdT ["_law_pen_here","_law_many"] (spTake K)) {f:Addr} {fd:FuncData} (F:Fun K "_law_amount" "_law_amount" s_law_amount f fd):FnOk P w K mg base CX0 2 f fd ["_law_pen_here","_law_least"] (spAmt K):=by
 refine F.ok sc_law_amount (fun vs H Q E h=>?_) (fun cdv A outer s H vs Q E hr h=>?_)
 ·obtain ⟨p,a,ns,least,rfl,_⟩:=h
  rfl
 ·obtain ⟨p,a,ns,least,rfl,⟨i,l,hP⟩,hlen,le0,le1,k⟩:=h
  have nd:=sc_law_amount.nd
  have ten:(1000:Int)<=10 ^ (30:Int).toNat:=by decide
  have ten':(10:Int) ^ (30:Int).toNat=10 ^ 30:=rfl
  refine ⟨_,(pss_cons (ps_set (i:=2) nd rfl (Or.inl rfl) (pe_call GT (hr.mono (by decide)) (by rfl) TK.mg TK.F.kp TK.b .nil pass0 (pa_cons (pv 0) (pa_cons pe_int pa_nil))))
  (pss_cons (ps_if (pt_cmpR op_lt (pv 2) pe_int (nomark _))
  (pss_one (ps_ret (pe_op op_add (pv 1) (pe_call GT (hr.mono (by decide)) (by rfl) TK.mg TK.F.kp TK.b .nil pass0 (pa_cons (pv 0) (pa_cons pe_int pa_nil))))))
  pss_nil)
  (pss_cons (ps_if (pt_cmpR op_lt (pv 2) pe_int (nomark _))
  (pss_one (ps_ret (pe_op op_add (pv 1) (pe_call GT (hr.mono (by decide)) (by rfl) TK.mg TK.F.kp TK.b .nil pass0 (pa_cons (pv 0) (pa_cons pe_int pa_nil))))))
  pss_nil)
  (pss_one (ps_ret (pe_op op_sub (pe_op op_sub (pe_op op_pow pe_int pe_int) pe_int) (pe_call GT (hr.mono (by decide)) (by rfl) TK.mg TK.F.kp TK.b .nil pass0 (pa_cons (pv 0) (pa_cons pe_int pa_nil))))))))),?_⟩
  refine ⟨_,rfl,p,a,ns,i,l,8,rfl,hP,by decide,by decide,hlen,fun d i1 l1 da db P1=>?_⟩
  refine ⟨_,rfl,_,_,rfl,rfl,_,rfl,?_⟩
  refine ite2 (fun _=>?_) (fun _=>?_)
  ·refine ⟨_,rfl,_,rfl,p,a,ns,i1,l1,3,rfl,P1,by decide,by decide,hlen,fun e i2 l2 ea eb P2=>⟨_,_,rfl,rfl,?_⟩⟩
   exact k _ _ (by (first|lia|omega)) (by (first|lia|omega)) ⟨i2,l2,P2⟩ (Keep.upd.trans Keep.upd)
  ·refine ⟨_,rfl,_,_,rfl,rfl,_,rfl,?_⟩
   refine ite2 (fun _=>?_) (fun _=>?_)
   ·refine ⟨_,rfl,_,rfl,p,a,ns,i1,l1,100,rfl,P1,by decide,by decide,hlen,fun e i2 l2 ea eb P2=>⟨_,_,rfl,rfl,?_⟩⟩
    exact k _ _ (by (first|lia|omega)) (by (first|lia|omega)) ⟨i2,l2,P2⟩ (Keep.upd.trans Keep.upd)
   ·refine ⟨_,_,rfl,rfl,⟨by decide,by decide,by decide⟩,_,_,rfl,rfl,_,rfl,p,a,ns,i1,l1,3,rfl,P1,by decide,by decide,hlen,fun e i2 l2 ea eb P2=>⟨_,_,rfl,rfl,?_⟩⟩
    exact k _ _ (by (first|lia|omega)) (by (first|lia|omega)) ⟨i2,l2,P2⟩ (Keep.upd.trans Keep.upd)
theorem ok_law_rising (h_sorted:mg "sorted"=none) {fT fN:Addr} {fdT fdN:FuncData} (TK:TakeF K mg fT fdT) (GT:FnOk P w K mg base CX0 1 fT fdT ["_law_pen_here","_law_many"] (spTake K)) (XN:Fn K mg "_law_names" s_law_names ["_law_pen_here","_law_many"] fN fdN) (GN:FnOk P w K mg base CX0 2 fN fdN ["_law_pen_here","_law_many"] (spNames K)) {f:Addr} {fd:FuncData} (F:Fun K "_law_rising" "_law_rising" s_law_rising f fd):FnOk P w K mg base CX0 3 f fd ["_law_pen_here","_law_most"] (spRisL K):=by
 refine F.ok sc_law_rising (fun vs H Q E h=>?_) (fun cdv A outer s H vs Q E hr h=>?_)
 ·obtain ⟨p,a,ns,most,rfl,_⟩:=h
  rfl
 ·obtain ⟨p,a,ns,most,rfl,⟨i,l,hP⟩,hlen,m1,m9,k⟩:=h
  refine ⟨_,(pss_one (ps_ret (pe_callB call_sorted_strs (by rfl) h_sorted PyProof.Rows.boot_sorted (pa_cons (pe_call GN (hr.mono (by decide)) (by rfl) XN.mg XN.F.kp XN.b .nil pass0 (pa_cons (pv 0) (pa_cons (pe_op op_add pe_int (pe_call GT (hr.mono (by decide)) (by rfl) TK.mg TK.F.kp TK.b .nil pass0 (pa_cons (pv 0) (pa_cons (pv 1) pa_nil)))) pa_nil))) pa_nil)))),?_⟩
  refine ⟨_,rfl,_,rfl,_,rfl,p,a,ns,i,l,most,rfl,hP,by (first|lia|omega),by (first|lia|omega),hlen,fun d i1 l1 da db P1=>⟨_,_,rfl,rfl,p,a,ns,i1,l1,(1 + d).toNat,?_,P1,hlen,by (first|lia|omega),fun H2 D xs i2 l2 P2 k2 hDn hD2 xl xnd xnm=>?_⟩⟩
  ·rw [Int.toNat_of_nonneg (by (first|lia|omega))]
   rfl
  refine ⟨D,xs,rfl,SqL.of hD2,by (first|lia|omega),fun L ss hL pm srt=>?_⟩
  have q:=same_upd (o:=.lst (ss.map V.str)) hL
  refine k _ L ss ⟨i2,l2,P2.same q⟩ ((Keep.upd.trans k2).trans (Keep.of_same q)) upd_same (fun e=>?_) (by rw [pm.length_eq]; (first|lia|omega)) (rising_of (sorted_pw srt) (pm.nodup_iff.mpr xnd)) fun s hs=>xnm s (pm.mem_iff.mp hs)
  have:=pm.length_eq
  rw [e,List.length_nil] at this
  (first|lia|omega)
theorem ok_law_prices (h_tuple:mg "tuple"=none) {fA:Addr} {fdA:FuncData} (XA:Fn K mg "_law_amount" s_law_amount ["_law_pen_here","_law_least"] fA fdA) (GA:FnOk P w K mg base CX0 2 fA fdA ["_law_pen_here","_law_least"] (spAmt K)) {f:Addr} {fd:FuncData} (F:Fun K "_law_prices" "_law_prices" s_law_prices f fd):FnOk P w K mg base CX0 3 f fd ["_law_pen_here","_law_places"] (spPrL K):=by
 refine F.ok sc_law_prices (fun vs H Q E h=>?_) (fun cdv A outer s H vs Q E hr h=>?_)
 ·obtain ⟨p,a,ns,D,ss,rfl,_⟩:=h
  rfl
 ·obtain ⟨p,a,ns,D,ss,rfl,hP,hlen,hD,l9,k⟩:=h
  have big:100000 < sizeLine:=by decide
  refine ⟨_,(pss_one (ps_ret (pe_callTy call_tuple_of (by rfl) h_tuple PyProof.Rows.boot_tuple (pa_cons (pe_comp (N:=["_law_place","_law_pen_here"]) (σ0:=fun σ=>[none,some 0].map fun j=>j.bind fun j=>(σ[j]?).join) rfl (CompOk.caught (by rfl) (by decide +kernel) rfl (by decide +kernel) (by intro y hy; simp only [List.mem_cons,List.not_mem_nil,or_false] at hy; rcases hy with rfl <;> rfl)
   (by intro y hy e; simp only [List.mem_cons,List.not_mem_nil,or_false] at hy; rcases hy with rfl | rfl | rfl | rfl <;> first | exact ⟨_,rfl⟩ | cases e)) (fun σ _=>Carry.of [none,some 0] rfl (by
   intro i j x h1 h2
   match i,h1,h2 with
   | 0,_,h2=>cases h2
   | 1,h1,h2=>cases h1; cases h2; exact ⟨rfl,.inl rfl,.inl rfl⟩
   | n + 2,h1,_=>cases h1)) (pi_list (pv 1))
   (fun s2 H C fp=>⟨(pg_name (i:=0) (show (["_law_place","_law_pen_here"]:List Str).Nodup by decide +kernel) rfl (Or.inl rfl)),pts_nil,(pe_tup (pa_cons (pv 0) (pa_cons (pe_call GA (hr.mono (by decide)) (by rfl) XA.mg XA.F.kp XA.b .nil pass0 (pa_cons (pv 1) (pa_cons pe_int pa_nil))) pa_nil)))⟩)) pa_nil)))),?_⟩
  have nDp:D ≠ p:=hP.ne hD (fun kvs=>by intro z; cases z)
  refine ⟨_,rfl,D,rfl,⟨_,SqL.of hD⟩,?_⟩
  refine read_map over_list (xs:=ss.map V.str) (fun C i σ' H' acc=>∃ (v0:Option V) (rs:List Row),σ'=[v0,some (.ref p)]/\PenX K H' p a ns/\(∀ b o,b ≠ p->H b=some o->H' b=some o)/\H' C=some (.lst acc)/\Dats H' acc (rs.map rowD)/\acc.length=i/\rs.map (·.1)=ss.take i/\∀ r ∈ rs,0<=r.2/\r.2 < 10 ^ 30)
   (by rw [List.length_map]; (first|lia|omega)) (fun C hC=>⟨_,[],rfl,hP.same (same_upd hC),fun b o _ e=>same_upd hC _ _ e,upd_same,.nil,rfl,rfl,fun r hr=>(nomatch hr)⟩)
   (fun C i σ' H' acc hC ⟨v0,rs,_,_,kp,hCC,_,al,_⟩=>⟨SqL.of (kp _ _ nDp hD),hCC,al⟩) ?_ ?_
  ·rintro C i σ' H' acc x B hC ex ⟨v0,rs,rfl,P1,kp,hCC,dd,al,rt,rl⟩ hB
   obtain ⟨y,ey,rfl⟩:∃ y,ss[i]? = some y/\x=.str y:=by
    rw [List.getElem?_map] at ex
    cases z:ss[i]? with
    | none=>rw [z] at ex; cases ex
    | some y=>rw [z] at ex; exact ⟨y,rfl,(Option.some.inj ex).symm⟩
   have nCp:C ≠ p:=hP.fresh hC
   refine ⟨_,rfl,_,rfl,p,a,ns,0,rfl,P1,hlen,by decide,by decide,fun n H2 n0 n1 P2 k2=>⟨(by show 2<=sizeLine; (first|lia|omega)),fun T hT=>?_⟩⟩
   have q:=same_upd (o:=.tup [.str y,.int n]) hT
   have hTT:(upd H2 T (.tup [.str y,.int n])) T=some (.tup [.str y,.int n]):=upd_same
   have P3:=P2.same q
   generalize upd H2 T (.tup [.str y,.int n])=H3 at q hTT P3
   have c3:H3 C=some (.lst acc):=q _ _ (k2 _ _ nCp hCC)
   have nT:T ≠ C:=by intro z; subst z; rw [c3] at hTT; cases hTT
   refine hB _ _ _ c3 ⟨_,rs ++ [(y,n)],rfl,P3.upd c3 (fun kvs=>by intro z; cases z) (fun _ _=>by intro z; cases z),fun b o hb e=>?_,upd_same,?_,by rw [List.length_append,al]; rfl,?_,fun r hr=>?_⟩
   ·rw [upd_ne (ne_of_none e hC)]
    exact q _ _ (k2 _ _ hb (kp b o hb e))
   ·rw [List.map_append]
    refine dats_app (row_dats dd fun b ys e=>?_) (.cons (rowD_of (u:=(y,n)) (by rw [upd_ne nT]; exact hTT)) .nil)
    rw [upd_ne (by intro z; subst z; rw [hCC] at e; cases e)]
    exact q _ _ (k2 _ _ (P1.ne e (fun kvs=>by intro z; cases z)) e)
   ·rw [List.map_append,rt,List.take_add_one,ey]
    rfl
   ·rcases List.mem_append.mp hr with hr | hr
    ·exact rl r hr
    ·rw [List.mem_singleton] at hr
     subst hr
     exact ⟨n0,n1⟩
  ·rintro C σ' H' acc hC ⟨v0,rs,rfl,P1,kp,hCC,dd,al,rt,rl⟩
   rw [List.length_map,List.take_length] at rt
   refine ⟨C,_,rfl,.inl ⟨SqL.of hCC,fun T hT=>?_⟩⟩
   have q:=same_upd (o:=.tup acc) hT
   exact k _ T acc rs (P1.same q) (fun b o hb e=>q _ _ (kp b o hb e)) upd_same (row_dats dd fun b ys e=>q _ _ e) rt rl
end
end K76
namespace K76
open PySem L2
section
variable {P:Program} {w:World} {K:PySem.W.Frag} {mg:Str->Option Value} {base:Heap}
theorem ok_same0 (h_bool:mg "bool"=none) (h_int:mg "int"=none) (h_isinstance:mg "isinstance"=none) (h_len:mg "len"=none) (h_range:mg "range"=none) (h_str:mg "str"=none) (h_tuple:mg "tuple"=none) {f:Addr} {fd:FuncData} (F:Fun K "_law_same" "_law_same" s_law_same f fd):FnOk P w K mg base CX0 1 f fd ["_law_told","_law_due"] (spSame 0):=by
 refine F.ok sc_law_same (fun vs H Q E h=>?_) (fun cdv A outer s H vs Q E hr h=>?_)
 ·obtain ⟨u,v,d,rfl,_⟩:=h
  rfl
 ·obtain ⟨u,v,d,rfl,hu1,hv1,sm,k⟩:=h
  have nd:=sc_law_same.nd
  have hu:=hu_of hr
  have hu64:=hr.units
  refine ⟨_,(pss_cons (ps_if (pt_val (pe_callB call_isinst (by rfl) h_isinstance PyProof.Rows.boot_isinstance (pa_cons (pv 1) (pa_cons (pe_bltn (v:=.ty "tuple") (by rfl) h_tuple PyProof.Rows.boot_tuple rfl) pa_nil))))
  pss_never
  pss_nil)
  (pss_cons (ps_if (pt_val (pe_callB call_isinst (by rfl) h_isinstance PyProof.Rows.boot_isinstance (pa_cons (pv 1) (pa_cons (pe_bltn (v:=.ty "str") (by rfl) h_str PyProof.Rows.boot_str rfl) pa_nil))))
  (pss_one (ps_ret (pe_and (pe_callB call_isinst (by rfl) h_isinstance PyProof.Rows.boot_isinstance (pa_cons (pv 0) (pa_cons (pe_bltn (v:=.ty "str") (by rfl) h_str PyProof.Rows.boot_str rfl) pa_nil))) (pe_one (pe_cmpR op_eq (pv 0) (pv 1) (nomark _))))))
  pss_nil)
  (pss_cons (ps_if (pt_cmp (pc_isN (pv 1)))
  (pss_one (ps_ret (pe_cmp (pc_isN (pv 0)))))
  pss_nil)
  (pss_one (ps_ret (pe_and (pe_callB call_isinst (by rfl) h_isinstance PyProof.Rows.boot_isinstance (pa_cons (pv 0) (pa_cons (pe_bltn (v:=.ty "int") (by rfl) h_int PyProof.Rows.boot_int rfl) pa_nil))) (pe_and (pe_not (pe_callB call_isinst (by rfl) h_isinstance PyProof.Rows.boot_isinstance (pa_cons (pv 0) (pa_cons (pe_bltn (v:=.ty "bool") (by rfl) h_bool PyProof.Rows.boot_bool rfl) pa_nil)))) (pe_one (pe_cmpR op_eq (pv 0) (pv 1) (nomark _)))))))))),?_⟩
  cases d with
  | str x=>
   cases hu1
   cases hv1
   refine ⟨_,rfl,_,"tuple",_,_,rfl,.str _,rfl,_,rfl,?_⟩
   refine iteF ?_
   refine ⟨_,rfl,_,"str",_,_,rfl,.str _,rfl,_,rfl,?_⟩
   refine iteT ?_
   refine ⟨_,rfl,_,"str",_,_,rfl,.str _,rfl,_,rfl,?_⟩
   refine iteT ?_
   refine ⟨_,rfl,_,rfl,rfl,?_⟩
   have:decide (V.str x=V.str x)=true:=decide_eq_true rfl
   rw [this]
   exact k _ (Same.refl _)
  | int x=>
   cases hu1
   cases hv1
   refine ⟨_,rfl,_,"tuple",_,_,rfl,.int _,rfl,_,rfl,?_⟩
   refine iteF ?_
   refine ⟨_,rfl,_,"str",_,_,rfl,.int _,rfl,_,rfl,?_⟩
   refine iteF ?_
   refine ⟨_,rfl,_,rfl,?_⟩
   refine iteF ?_
   refine ⟨_,rfl,_,"int",_,_,rfl,.int _,rfl,_,rfl,?_⟩
   refine iteT ?_
   refine ⟨_,rfl,_,"bool",_,_,rfl,.int _,rfl,_,rfl,_,rfl,?_⟩
   refine iteT ?_
   refine ⟨_,rfl,_,rfl,rfl,?_⟩
   have:decide (V.int x=V.int x)=true:=decide_eq_true rfl
   rw [this]
   exact k _ (Same.refl _)
  | _=>exact sm.elim
theorem ok_sameS (h_bool:mg "bool"=none) (h_int:mg "int"=none) (h_isinstance:mg "isinstance"=none) (h_len:mg "len"=none) (h_range:mg "range"=none) (h_str:mg "str"=none) (h_tuple:mg "tuple"=none) {f:Addr} {fd:FuncData} (XS:Fn K mg "_law_same" s_law_same ["_law_told","_law_due"] f fd) {n:Nat} (GS:FnOk P w K mg base CX0 (n + 1) f fd ["_law_told","_law_due"] (spSame n)):FnOk P w K mg base CX0 (n + 2) f fd ["_law_told","_law_due"] (spSame (n + 1)):=by
 have F:=XS.F
 refine F.ok sc_law_same (fun vs H Q E h=>?_) (fun cdv A outer s H vs Q E hr h=>?_)
 ·obtain ⟨u,v,d,rfl,_⟩:=h
  rfl
 ·obtain ⟨u,v,d,rfl,hu1,hv1,sm,k⟩:=h
  have nd:=sc_law_same.nd
  have hu:=hu_of hr
  have hu64:=hr.units
  have big:100000 < sizeLine:=by decide
  refine ⟨_,(pss_cons (ps_if (pt_val (pe_callB call_isinst (by rfl) h_isinstance PyProof.Rows.boot_isinstance (pa_cons (pv 1) (pa_cons (pe_bltn (v:=.ty "tuple") (by rfl) h_tuple PyProof.Rows.boot_tuple rfl) pa_nil))))
  (pss_cons (ps_if (pw_or (pt_not (pt_val (pe_callB call_isinst (by rfl) h_isinstance PyProof.Rows.boot_isinstance (pa_cons (pv 0) (pa_cons (pe_bltn (v:=.ty "tuple") (by rfl) h_tuple PyProof.Rows.boot_tuple rfl) pa_nil))))) (pw_or1 (pt_cmpR op_ne (pe_callB call_len_seq (by rfl) h_len PySem.boot_len (pa_cons (pv 0) pa_nil)) (pe_callB call_len_seq (by rfl) h_len PySem.boot_len (pa_cons (pv 1) pa_nil)) (nomark _)))).pt
  (pss_one (ps_ret pe_bl))
  pss_nil)
  (pss_one (ps_ret (pe_cmpR (op_eq_nil (Nat.lt_of_succ_lt hu)) (pe_comp (N:=["_law_k","_law_told","_law_due"]) (σ0:=fun σ=>[none,some 0,some 1].map fun j=>j.bind fun j=>(σ[j]?).join) rfl (CompOk.caught (by rfl) (by decide +kernel) rfl (by decide +kernel) (by intro y hy; simp only [List.mem_cons,List.not_mem_nil,or_false] at hy; rcases hy with rfl | rfl <;> rfl)
   (by intro y hy e; simp only [List.mem_cons,List.not_mem_nil,or_false] at hy; rcases hy with rfl | rfl | rfl | rfl | rfl <;> first | exact ⟨_,rfl⟩ | cases e)) (fun σ _=>Carry.of [none,some 0,some 1] rfl (by
   intro i j x h1 h2
   match i,h1,h2 with
   | 0,_,h2=>cases h2
   | 1,h1,h2=>cases h1; cases h2; exact ⟨rfl,.inl rfl,.inl rfl⟩
   | 2,h1,h2=>cases h1; cases h2; exact ⟨rfl,.inl rfl,.inl rfl⟩
   | n + 3,h1,_=>cases h1)) (pi_range1 (by rfl) h_range (pa_cons (pe_callB call_len_seq (by rfl) h_len PySem.boot_len (pa_cons (pv 1) pa_nil)) pa_nil))
   (fun s2 H C fp=>⟨(pg_name (i:=0) (show (["_law_k","_law_told","_law_due"]:List Str).Nodup by decide +kernel) rfl (Or.inl rfl)),(pts_one (pt_not (pt_val (pe_call GS (hr.mono (Nat.le_refl _)) (by rfl) XS.mg XS.F.kp XS.b .nil pass0 (pa_cons (pe_ix (ix_tupK K rfl) (pv 1) (pv 0) (fun _ _=>rfl)) (pa_cons (pe_ix (ix_tupK K rfl) (pv 2) (pv 0) (fun _ _=>rfl)) pa_nil)))))),(pv 0)⟩)) (pe_lst pa_nil) (nomark _)))))
  pss_nil)
  (pss_cons (ps_if (pt_val (pe_callB call_isinst (by rfl) h_isinstance PyProof.Rows.boot_isinstance (pa_cons (pv 1) (pa_cons (pe_bltn (v:=.ty "str") (by rfl) h_str PyProof.Rows.boot_str rfl) pa_nil))))
  (pss_one (ps_ret (pe_and (pe_callB call_isinst (by rfl) h_isinstance PyProof.Rows.boot_isinstance (pa_cons (pv 0) (pa_cons (pe_bltn (v:=.ty "str") (by rfl) h_str PyProof.Rows.boot_str rfl) pa_nil))) (pe_one (pe_cmpR op_eq (pv 0) (pv 1) (nomark _))))))
  pss_nil)
  (pss_cons (ps_if (pt_cmp (pc_isN (pv 1)))
  (pss_one (ps_ret (pe_cmp (pc_isN (pv 0)))))
  pss_nil)
  (pss_one (ps_ret (pe_and (pe_callB call_isinst (by rfl) h_isinstance PyProof.Rows.boot_isinstance (pa_cons (pv 0) (pa_cons (pe_bltn (v:=.ty "int") (by rfl) h_int PyProof.Rows.boot_int rfl) pa_nil))) (pe_and (pe_not (pe_callB call_isinst (by rfl) h_isinstance PyProof.Rows.boot_isinstance (pa_cons (pv 0) (pa_cons (pe_bltn (v:=.ty "bool") (by rfl) h_bool PyProof.Rows.boot_bool rfl) pa_nil)))) (pe_one (pe_cmpR op_eq (pv 0) (pv 1) (nomark _)))))))))),?_⟩
  cases d with
  | str x=>
   cases hu1
   cases hv1
   refine ⟨_,rfl,_,"tuple",_,_,rfl,.str _,rfl,_,rfl,?_⟩
   refine iteF ?_
   refine ⟨_,rfl,_,"str",_,_,rfl,.str _,rfl,_,rfl,?_⟩
   refine iteT ?_
   refine ⟨_,rfl,_,"str",_,_,rfl,.str _,rfl,_,rfl,?_⟩
   refine iteT ?_
   refine ⟨_,rfl,_,rfl,rfl,?_⟩
   have:decide (V.str x=V.str x)=true:=decide_eq_true rfl
   rw [this]
   exact k _ (Same.refl _)
  | int x=>
   cases hu1
   cases hv1
   refine ⟨_,rfl,_,"tuple",_,_,rfl,.int _,rfl,_,rfl,?_⟩
   refine iteF ?_
   refine ⟨_,rfl,_,"str",_,_,rfl,.int _,rfl,_,rfl,?_⟩
   refine iteF ?_
   refine ⟨_,rfl,_,rfl,?_⟩
   refine iteF ?_
   refine ⟨_,rfl,_,"int",_,_,rfl,.int _,rfl,_,rfl,?_⟩
   refine iteT ?_
   refine ⟨_,rfl,_,"bool",_,_,rfl,.int _,rfl,_,rfl,_,rfl,?_⟩
   refine iteT ?_
   refine ⟨_,rfl,_,rfl,rfl,?_⟩
   have:decide (V.int x=V.int x)=true:=decide_eq_true rfl
   rw [this]
   exact k _ (Same.refl _)
  | tuple ds=>
   obtain ⟨dl,dm⟩:=sm
   cases hu1 with
   | tup ht dt=>
   rename_i tu xs
   cases hv1 with
   | tup ht' dt'=>
   rename_i tv ys
   have l1:=dt.len
   have l2:=dt'.len
   refine ⟨_,rfl,_,"tuple",_,_,rfl,.tup ht',rfl,_,rfl,?_⟩
   refine iteT ?_
   refine ⟨_,rfl,_,"tuple",_,_,rfl,.tup ht,rfl,_,rfl,?_⟩
   refine iteF ?_
   refine ⟨_,rfl,tu,_,rfl,.inr (SqT.of ht),_,rfl,tv,_,rfl,.inr (SqT.of ht'),rfl,_,rfl,?_⟩
   have el:(!decide (V.int (xs.length:Int)=V.int (ys.length:Int)))=false:=by rw [l1,l2]; simp
   rw [el]
   refine iteF ?_
   refine ⟨_,rfl,tv,_,rfl,.inr (SqT.of ht'),(ys.length:Int),rfl,by (first|lia|omega),by (first|lia|omega),?_⟩
   refine read_none (fun i σ=>∃ v0,σ=[v0,some (.ref tu),some (.ref tv)]) ⟨_,rfl⟩ ?_ ?_
   ·rintro i σ H' N hi ⟨v0,rfl⟩ sa hN B
    rw [Int.toNat_natCast] at hi
    have hi1:i < xs.length:=by (first|lia|omega)
    obtain ⟨d1,e1,q1⟩:=dt.at (List.getElem?_eq_getElem hi1)
    obtain ⟨d2,e2,q2⟩:=dt'.at (List.getElem?_eq_getElem hi)
    rw [e1] at e2
    cases e2
    refine ⟨_,rfl,_,rfl,tu,_,_,_,rfl,rfl,SqT.of (sa _ _ ht),?_,_,rfl,_,rfl,tv,_,_,_,rfl,rfl,SqT.of (sa _ _ ht'),?_,_,_,d1,rfl,q1.same sa,q2.same sa,dm d1 (List.mem_of_getElem? e1),fun H5 s5=>⟨_,rfl,?_⟩⟩
    ·rw [Int.zero_add]
     exact atI_nat (List.getElem?_eq_getElem hi1)
    ·rw [Int.zero_add]
     exact atI_nat (List.getElem?_eq_getElem hi)
    ·refine iteF ?_
     exact hN _ _ ⟨_,rfl⟩ s5
   ·intro D H' hD sa hDD
    refine ⟨Nat.zero_le _,fun E' hE=>⟨D,E',[],rfl,rfl,SqL.of (same_upd hE _ _ hDD),SqL.of upd_same,?_⟩⟩
    exact k _ (sa.trans (same_upd hE))
  | _=>exact sm.elim
end
end K76
namespace K76
open PySem L2
section
variable {P:Program} {w:World} {K:PySem.W.Frag} {mg:Str->Option Value} {base:Heap}
theorem ok_behind (h_len:mg "len"=none) {fN:Addr} {fdN:FuncData} (XN:Fn K mg "need" s_need ["right"] fN fdN) (GN:FnOk P w K mg base CX0 1 fN fdN ["right"] spNeed) {f:Addr} {fd:FuncData} (F:Fun K "behind" "behind" s_behind f fd):FnOk P w K mg base CX0 2 f fd ["text","at","mark"] spBeh:=by
 refine F.ok sc_behind (fun vs H Q E h=>?_) (fun cdv A outer s H vs Q E hr h=>?_)
 ·obtain ⟨z,m,i,rfl,_⟩:=h
  rfl
 ·obtain ⟨z,m,i,rfl,ct,ml,k⟩:=h
  have big:1000 < sizeLine:=by decide
  refine ⟨_,(pss_cons (ps_expr (pe_call GN (hr.mono (by decide)) (by rfl) XN.mg XN.F.kp XN.b .nil pass0 (pa_cons (pe_bm PySem.F.plainAttrs_str PySem.F.slot_str_startswith PySem.F.type_str_startswith mt_starts (pv 0) (pa_cons (pv 2) (pa_cons (pv 1) pa_nil))) pa_nil)))
  (pss_one (ps_ret (pe_op op_add (pv 1) (pe_callB call_len_str (by rfl) h_len PySem.boot_len (pa_cons (pv 2) pa_nil)))))),?_⟩
  refine ⟨_,rfl,rfl,_,rfl,_,rfl,_,_,_,rfl,rfl,?_⟩
  rw [starts_cut ct]
  refine ⟨rfl,_,rfl,_,rfl,_,rfl,by (first|lia|omega),_,_,rfl,rfl,?_⟩
  exact k
theorem ok_part_at (h_len:mg "len"=none) {fN:Addr} {fdN:FuncData} (XN:Fn K mg "need" s_need ["right"] fN fdN) (GN:FnOk P w K mg base CX0 1 fN fdN ["right"] spNeed) {f:Addr} {fd:FuncData} (F:Fun K "part_at" "part_at" s_part_at f fd):FnOk P w K mg base CX0 2 f fd ["text","at","mark"] spPart:=by
 refine F.ok sc_part_at (fun vs H Q E h=>?_) (fun cdv A outer s H vs Q E hr h=>?_)
 ·obtain ⟨z,x,i,c,rfl,_⟩:=h
  rfl
 ·obtain ⟨z,x,i,c,rfl,ct,hc,zl,k⟩:=h
  have nd:=sc_part_at.nd
  have big:1000 < sizeLine:=by decide
  refine ⟨_,(pss_cons (ps_set (i:=3) nd rfl (Or.inl rfl) (pe_bm PySem.F.plainAttrs_str PySem.F.slot_str_find PySem.F.type_str_find mt_find (pv 0) (pa_cons (pv 2) (pa_cons (pv 1) pa_nil))))
  (pss_cons (ps_expr (pe_call GN (hr.mono (by decide)) (by rfl) XN.mg XN.F.kp XN.b .nil pass0 (pa_cons (pe_cmpR op_ge (pv 3) pe_int (nomark _)) pa_nil)))
  (pss_one (ps_ret (pe_tup (pa_cons (pe_slice_str (pv 0) (po_some (pv 1)) (po_some (pv 3))) (pa_cons (pe_op op_add (pv 3) (pe_callB call_len_str (by rfl) h_len PySem.boot_len (pa_cons (pv 2) pa_nil))) pa_nil))))))),?_⟩
  refine ⟨_,rfl,rfl,_,rfl,_,rfl,_,_,_,rfl,rfl,?_⟩
  rw [find_cut ct hc]
  have e0:decide ((0:Int)<=((i + x.length:Nat):Int))=true:=decide_eq_true (by (first|lia|omega))
  refine ⟨_,rfl,_,_,rfl,rfl,by show [V.bl (decide ((0:Int)<=((i + x.length:Nat):Int)))]=_; rw [e0],?_⟩
  have ctx:Cut z i x:=ct.sub (x:=Str.empty) (w:=⟨#[c]⟩) (by rw [str_empty])
  refine ⟨_,rfl,_,rfl,_,rfl,_,rfl,_,rfl,_,rfl,zl,?_⟩
  rw [slice_cut ctx]
  refine ⟨_,rfl,_,rfl,_,rfl,(by show 1<=sizeLine; (first|lia|omega)),_,_,rfl,rfl,(by show 2<=sizeLine; (first|lia|omega)),fun T hT=>?_⟩
  refine k _ T (same_upd hT) ?_
  rw [upd_same]
  rfl
theorem ok_leaf_at {fP fR fB:Addr} {fdP fdR fdB:FuncData} (XP:Fn K mg "part_at" s_part_at ["text","at","mark"] fP fdP) (GP:FnOk P w K mg base CX0 2 fP fdP ["text","at","mark"] spPart) (XR:Fn K mg "read_prices" s_read_prices ["text"] fR fdR) (GR:FnOk P w K mg base CX0 4 fR fdR ["text"] spPrR) (XB:Fn K mg "read_number" s_read_number ["word"] fB fdB) (GB:FnOk P w K mg base CX0 2 fB fdB ["word"] spNumber) {f:Addr} {fd:FuncData} (F:Fun K "leaf_at" "leaf_at" s_leaf_at f fd):FnOk P w K mg base CX0 5 f fd ["text","at"] spLeafAt:=by
 refine F.ok sc_leaf_at (fun vs H Q E h=>?_) (fun cdv A outer s H vs Q E hr h=>?_)
 ·obtain ⟨z,i,rs,n,rfl,_⟩:=h
  rfl
 ·obtain ⟨z,i,rs,n,rfl,ct,ok,zl,k⟩:=h
  have nd:=sc_leaf_at.nd
  have big:1000 < sizeLine:=by decide
  refine ⟨_,(pss_cons (ps_asg (pe_call GP (hr.mono (by decide)) (by rfl) XP.mg XP.F.kp XP.b .nil pass0 (pa_cons (pv 0) (pa_cons (pv 1) (pa_cons pe_str pa_nil)))) (pg_tup rfl (pgs_cons (pg_name (i:=2) nd rfl (Or.inl rfl)) (pgs_cons (pg_name (i:=1) nd rfl (Or.inl rfl)) pgs_nil))))
  (pss_cons (ps_asg (pe_call GP (hr.mono (by decide)) (by rfl) XP.mg XP.F.kp XP.b .nil pass0 (pa_cons (pv 0) (pa_cons (pv 1) (pa_cons pe_str pa_nil)))) (pg_tup rfl (pgs_cons (pg_name (i:=3) nd rfl (Or.inl rfl)) (pgs_cons (pg_name (i:=1) nd rfl (Or.inl rfl)) pgs_nil))))
  (pss_one (ps_ret (pe_tup (pa_cons (pe_tup (pa_cons pe_str (pa_cons (pe_call GR (hr.mono (by decide)) (by rfl) XR.mg XR.F.kp XR.b .nil pass0 (pa_cons (pv 2) pa_nil)) (pa_cons (pe_call GB (hr.mono (by decide)) (by rfl) XB.mg XB.F.kp XB.b .nil pass0 (pa_cons (pv 3) pa_nil)) pa_nil)))) (pa_cons (pv 1) pa_nil))))))),?_⟩
  obtain ⟨c1,c2,el⟩:=leaf_cuts ct
  refine ⟨_,rfl,_,rfl,z,prS rs,i + 5,59,rfl,c1,pr_no59 ok,zl,fun H1 t1 s1 h1=>?_⟩
  refine ⟨t1,_,rfl,SqT.of h1,rfl,_,_,rfl,_,_,rfl,rfl,?_⟩
  refine ⟨_,rfl,_,rfl,z,numS n,_,41,rfl,c2,num_no41 ok.n0,zl,fun H2 t2 s2 h2=>?_⟩
  refine ⟨t2,_,rfl,SqT.of h2,rfl,_,_,rfl,_,_,rfl,rfl,?_⟩
  refine ⟨_,rfl,rs,rfl,ok.r1,ok.r2,ok.r3,ok.r4,fun H3 t3 us s3 h3 d3=>?_⟩
  refine ⟨_,rfl,n,rfl,ok.n0,ok.n1,fun H4 s4=>⟨(by show 3<=sizeLine; (first|lia|omega)),fun T hT=>?_⟩⟩
  have q:=same_upd (o:=.tup [.str "leaf",.ref t3,.int n]) hT
  have hTT:(upd H4 T (.tup [.str "leaf",.ref t3,.int n])) T=some (.tup [.str "leaf",.ref t3,.int n]):=upd_same
  have d5:Dat (upd H4 T (.tup [.str "leaf",.ref t3,.int n])) (.ref T) (trD (.leaf rs n)):=leaf_dat hTT (q _ _ (s4 _ _ h3)) (d3.mono fun a o e _=>q _ _ (s4 _ _ e))
  refine ⟨_,rfl,(by show 2<=sizeLine; (first|lia|omega)),fun T2 hT2=>?_⟩
  have q2:=same_upd (o:=.tup [.ref T,.int ((i + 5 + (prS rs).length + 1 + (numS n).length + 1:Nat):Int)]) hT2
  refine k _ T2 (.ref T) (s1.trans (s2.trans (s3.trans (s4.trans (q.trans q2))))) ?_ (d5.same q2)
  rw [upd_same,el]
theorem ok_tree0 {f:Addr} {fd:FuncData} (F:Fun K "tree_at" "tree_at" s_tree_at f fd):FnOk P w K mg base CX0 5 f fd ["text","at","depth"] (spTreeAt 0):=by
 refine F.ok sc_tree_at (fun vs H Q E h=>?_) (fun cdv A outer s H vs Q E hr h=>?_)
 ·obtain ⟨z,i,d,tr,rfl,_⟩:=h
  rfl
 ·obtain ⟨z,i,d,tr,rfl,_,_,d0,_⟩:=h
  have:=tr.dep1
  (first|lia|omega)
theorem ok_treeS (g_D:∃ t,mg "DEEPEST"=some (.int 30 t)) (h_len:mg "len"=none) {fN fL fP fH fI:Addr} {fdN fdL fdP fdH fdI:FuncData} (XN:Fn K mg "need" s_need ["right"] fN fdN) (GN:FnOk P w K mg base CX0 1 fN fdN ["right"] spNeed) (XL:Fn K mg "leaf_at" s_leaf_at ["text","at"] fL fdL) (GL:FnOk P w K mg base CX0 5 fL fdL ["text","at"] spLeafAt) (XP:Fn K mg "part_at" s_part_at ["text","at","mark"] fP fdP) (GP:FnOk P w K mg base CX0 2 fP fdP ["text","at","mark"] spPart) (XH:Fn K mg "behind" s_behind ["text","at","mark"] fH fdH) (GH:FnOk P w K mg base CX0 2 fH fdH ["text","at","mark"] spBeh) (XI:Fn K mg "is_name" s_is_name ["thing"] fI fdI) (GI:FnOk P w K mg base CX0 1 fI fdI ["thing"] (spName K)) {f:Addr} {fd:FuncData} (XT:Fn K mg "tree_at" s_tree_at ["text","at","depth"] f fd) {n:Nat} (GT:FnOk P w K mg base CX0 (n + 5) f fd ["text","at","depth"] (spTreeAt n)):FnOk P w K mg base CX0 (n + 6) f fd ["text","at","depth"] (spTreeAt (n + 1)):=by
 obtain ⟨tD,g_DEEPEST⟩:=g_D
 refine XT.F.ok sc_tree_at (fun vs H Q E h=>?_) (fun cdv A outer s H vs Q E hr h=>?_)
 ·obtain ⟨z,i,d,tr,rfl,_⟩:=h
  rfl
 ·obtain ⟨z,i,d,tr,rfl,ct,ok,dk,d30,zl,k⟩:=h
  have nd:=sc_tree_at.nd
  have big:1000 < sizeLine:=by decide
  have d1:=tr.dep1
  refine ⟨_,(pss_cons (ps_expr (pe_call GN (hr.mono (by (first|lia|omega))) (by rfl) XN.mg XN.F.kp XN.b .nil pass0 (pa_cons (pe_cmpR op_le (pv 2) (pe_glob (v:=.int 30) (by rfl) g_DEEPEST ⟨_,rfl⟩) (nomark _)) pa_nil)))
  (pss_cons (ps_if (pt_val (pe_bm PySem.F.plainAttrs_str PySem.F.slot_str_startswith PySem.F.type_str_startswith mt_starts (pv 0) (pa_cons pe_str (pa_cons (pv 1) pa_nil))))
  (pss_one (ps_ret (pe_call GL (hr.mono (by (first|lia|omega))) (by rfl) XL.mg XL.F.kp XL.b .nil pass0 (pa_cons (pv 0) (pa_cons (pe_op op_add (pv 1) (pe_callB call_len_str (by rfl) h_len PySem.boot_len (pa_cons pe_str pa_nil))) pa_nil)))))
  pss_nil)
  (pss_cons (ps_asg (pe_call GP (hr.mono (by (first|lia|omega))) (by rfl) XP.mg XP.F.kp XP.b .nil pass0 (pa_cons (pv 0) (pa_cons (pe_call GH (hr.mono (by (first|lia|omega))) (by rfl) XH.mg XH.F.kp XH.b .nil pass0 (pa_cons (pv 0) (pa_cons (pv 1) (pa_cons pe_str pa_nil)))) (pa_cons pe_str pa_nil)))) (pg_tup rfl (pgs_cons (pg_name (i:=3) nd rfl (Or.inl rfl)) (pgs_cons (pg_name (i:=1) nd rfl (Or.inl rfl)) pgs_nil))))
  (pss_cons (ps_expr (pe_call GN (hr.mono (by (first|lia|omega))) (by rfl) XN.mg XN.F.kp XN.b .nil pass0 (pa_cons (pe_call GI (hr.mono (by (first|lia|omega))) (by rfl) XI.mg XI.F.kp XI.b .nil pass0 (pa_cons (pv 3) pa_nil)) pa_nil)))
  (pss_cons (ps_asg (pe_call GT (hr.mono (Nat.le_refl _)) (by rfl) XT.mg XT.F.kp XT.b .nil pass0 (pa_cons (pv 0) (pa_cons (pv 1) (pa_cons (pe_op op_add (pv 2) pe_int) pa_nil)))) (pg_tup rfl (pgs_cons (pg_name (i:=4) nd rfl (Or.inl rfl)) (pgs_cons (pg_name (i:=1) nd rfl (Or.inl rfl)) pgs_nil))))
  (pss_cons (ps_asg (pe_call GT (hr.mono (Nat.le_refl _)) (by rfl) XT.mg XT.F.kp XT.b .nil pass0 (pa_cons (pv 0) (pa_cons (pe_call GH (hr.mono (by (first|lia|omega))) (by rfl) XH.mg XH.F.kp XH.b .nil pass0 (pa_cons (pv 0) (pa_cons (pv 1) (pa_cons pe_str pa_nil)))) (pa_cons (pe_op op_add (pv 2) pe_int) pa_nil)))) (pg_tup rfl (pgs_cons (pg_name (i:=5) nd rfl (Or.inl rfl)) (pgs_cons (pg_name (i:=1) nd rfl (Or.inl rfl)) pgs_nil))))
  (pss_one (ps_ret (pe_tup (pa_cons (pe_tup (pa_cons pe_str (pa_cons (pv 3) (pa_cons (pv 4) (pa_cons (pv 5) pa_nil))))) (pa_cons (pe_call GH (hr.mono (by (first|lia|omega))) (by rfl) XH.mg XH.F.kp XH.b .nil pass0 (pa_cons (pv 0) (pa_cons (pv 1) (pa_cons pe_str pa_nil)))) pa_nil))))))))))),?_⟩
  have e0:decide ((d:Int)<=(30:Int))=true:=decide_eq_true (by (first|lia|omega))
  refine ⟨_,rfl,_,_,rfl,rfl,by show [V.bl (decide ((d:Int)<=(30:Int)))]=_; rw [e0],?_⟩
  cases tr with
  | leaf rs m=>
   refine ⟨_,rfl,rfl,_,rfl,_,_,_,rfl,rfl,?_⟩
   rw [starts_cut (leaf_head ct)]
   refine ⟨_,rfl,?_⟩
   refine iteT ?_
   refine ⟨_,rfl,_,rfl,_,rfl,(by show 5<=sizeLine; (first|lia|omega)),_,_,rfl,rfl,z,i,rs,m,rfl,ct,ok,zl,fun H1 t v s1 h1 dd=>?_⟩
   exact k H1 t v s1 h1 dd
  | split x a b=>
   obtain ⟨okn,oka,okb⟩:=ok
   rw [Tr.dep] at dk d30
   obtain ⟨c0,c1,c2,c3,c4,c5,el⟩:=split_cuts ct
   refine ⟨_,rfl,rfl,_,rfl,_,_,_,rfl,rfl,?_⟩
   rw [starts_not c0 (c:=115) (d:=108) rfl rfl (by decide)]
   refine ⟨_,rfl,?_⟩
   refine iteF ?_
   refine ⟨_,rfl,_,rfl,_,rfl,z,_,i,rfl,c0,(by show 6<=100; decide),z,x,i + 6,59,rfl,c1,name_no okn (by decide),zl,fun H1 t1 s1 h1=>?_⟩
   refine ⟨t1,_,rfl,SqT.of h1,rfl,_,_,rfl,_,_,rfl,rfl,?_⟩
   refine ⟨_,rfl,_,rfl,.inl ⟨x,rfl,Nat.le_trans (name_len okn) (by decide),fun H2 s2=>?_⟩⟩
   rw [okn]
   refine ⟨rfl,?_⟩
   refine ⟨_,rfl,_,rfl,_,rfl,_,_,rfl,rfl,z,_,d + 1,a,rfl,c2,oka,by (first|lia|omega),by (first|lia|omega),zl,fun H3 t3 va s3 h3 da=>?_⟩
   refine ⟨t3,_,rfl,SqT.of h3,rfl,_,_,rfl,_,_,rfl,rfl,?_⟩
   refine ⟨_,rfl,_,rfl,_,rfl,z,_,_,rfl,c3,(by show 1<=100; decide),_,rfl,_,_,rfl,rfl,z,_,d + 1,b,rfl,c4,okb,by (first|lia|omega),by (first|lia|omega),zl,fun H4 t4 vb s4 h4 db=>?_⟩
   refine ⟨t4,_,rfl,SqT.of h4,rfl,_,_,rfl,_,_,rfl,rfl,?_⟩
   refine ⟨_,rfl,_,rfl,_,rfl,(by show 4<=sizeLine; (first|lia|omega)),fun T hT=>?_⟩
   have q:=same_upd (o:=.tup [.str "split",.str x,va,vb]) hT
   have d5:Dat (upd H4 T (.tup [.str "split",.str x,va,vb])) (.ref T) (trD (.split x a b)):=split_dat upd_same ((da.same s4).same q) (db.same q)
   generalize upd H4 T (.tup [.str "split",.str x,va,vb])=H5 at q d5
   refine ⟨_,rfl,_,rfl,z,_,_,rfl,c5,(by show 1<=100; decide),(by show 2<=sizeLine; (first|lia|omega)),fun T2 hT2=>?_⟩
   have q2:=fun (o:HO)=>same_upd (o:=o) hT2
   refine k _ T2 (.ref T) (s1.trans (s2.trans (s3.trans (s4.trans (q.trans (q2 _)))))) ?_ (d5.same (q2 _))
   rw [upd_same,<-el]
   rfl
theorem ok_trees (g_D:∃ t,mg "DEEPEST"=some (.int 30 t)) (h_len:mg "len"=none) {fN fL fP fH fI:Addr} {fdN fdL fdP fdH fdI:FuncData} (XN:Fn K mg "need" s_need ["right"] fN fdN) (GN:FnOk P w K mg base CX0 1 fN fdN ["right"] spNeed) (XL:Fn K mg "leaf_at" s_leaf_at ["text","at"] fL fdL) (GL:FnOk P w K mg base CX0 5 fL fdL ["text","at"] spLeafAt) (XP:Fn K mg "part_at" s_part_at ["text","at","mark"] fP fdP) (GP:FnOk P w K mg base CX0 2 fP fdP ["text","at","mark"] spPart) (XH:Fn K mg "behind" s_behind ["text","at","mark"] fH fdH) (GH:FnOk P w K mg base CX0 2 fH fdH ["text","at","mark"] spBeh) (XI:Fn K mg "is_name" s_is_name ["thing"] fI fdI) (GI:FnOk P w K mg base CX0 1 fI fdI ["thing"] (spName K)) {f:Addr} {fd:FuncData} (XT:Fn K mg "tree_at" s_tree_at ["text","at","depth"] f fd) (n:Nat):FnOk P w K mg base CX0 (n + 5) f fd ["text","at","depth"] (spTreeAt n):=by
 induction n with
 | zero=>exact ok_tree0 XT.F
 | succ n ih=>exact ok_treeS g_D h_len XN GN XL GL XP GP XH GH XI GI XT ih
theorem ok_tree_at (g_D:∃ t,mg "DEEPEST"=some (.int 30 t)) (h_len:mg "len"=none) {fN fL fP fH fI:Addr} {fdN fdL fdP fdH fdI:FuncData} (XN:Fn K mg "need" s_need ["right"] fN fdN) (GN:FnOk P w K mg base CX0 1 fN fdN ["right"] spNeed) (XL:Fn K mg "leaf_at" s_leaf_at ["text","at"] fL fdL) (GL:FnOk P w K mg base CX0 5 fL fdL ["text","at"] spLeafAt) (XP:Fn K mg "part_at" s_part_at ["text","at","mark"] fP fdP) (GP:FnOk P w K mg base CX0 2 fP fdP ["text","at","mark"] spPart) (XH:Fn K mg "behind" s_behind ["text","at","mark"] fH fdH) (GH:FnOk P w K mg base CX0 2 fH fdH ["text","at","mark"] spBeh) (XI:Fn K mg "is_name" s_is_name ["thing"] fI fdI) (GI:FnOk P w K mg base CX0 1 fI fdI ["thing"] (spName K)) {f:Addr} {fd:FuncData} (XT:Fn K mg "tree_at" s_tree_at ["text","at","depth"] f fd) (F:Fun K "tree_at" "tree_at" s_tree_at f fd):FnOk P w K mg base CX0 35 f fd ["text","at","depth"] (spTreeAt 30):=by exact ok_trees g_D h_len XN GN XL GL XP GP XH GH XI GI XT 30
theorem ok_read_tree (h_isinstance:mg "isinstance"=none) (h_len:mg "len"=none) (h_str:mg "str"=none) {fN fT:Addr} {fdN fdT:FuncData} (XN:Fn K mg "need" s_need ["right"] fN fdN) (GN:FnOk P w K mg base CX0 1 fN fdN ["right"] spNeed) (XT:Fn K mg "tree_at" s_tree_at ["text","at","depth"] fT fdT) (GT:FnOk P w K mg base CX0 35 fT fdT ["text","at","depth"] (spTreeAt 30)) {f:Addr} {fd:FuncData} (F:Fun K "read_tree" "read_tree" s_read_tree f fd):FnOk P w K mg base CX0 36 f fd ["text"] spReadT:=by
 refine F.ok sc_read_tree (fun vs H Q E h=>?_) (fun cdv A outer s H vs Q E hr h=>?_)
 ·obtain ⟨tr,rfl,_⟩:=h
  rfl
 ·obtain ⟨tr,rfl,ok,d30,sz,k⟩:=h
  have nd:=sc_read_tree.nd
  have big:10000000 < sizeLine:=by decide
  have tl:=trS_len ok
  refine ⟨_,(pss_cons (ps_expr (pe_call GN (hr.mono (by decide)) (by rfl) XN.mg XN.F.kp XN.b .nil pass0 (pa_cons (pe_callB call_isinst (by rfl) h_isinstance PyProof.Rows.boot_isinstance (pa_cons (pv 0) (pa_cons (pe_bltn (v:=.ty "str") (by rfl) h_str PyProof.Rows.boot_str rfl) pa_nil))) pa_nil)))
  (pss_cons (ps_asg (pe_call GT (hr.mono (by decide)) (by rfl) XT.mg XT.F.kp XT.b .nil pass0 (pa_cons (pv 0) (pa_cons pe_int (pa_cons pe_int pa_nil)))) (pg_tup rfl (pgs_cons (pg_name (i:=1) nd rfl (Or.inl rfl)) (pgs_cons (pg_name (i:=2) nd rfl (Or.inl rfl)) pgs_nil))))
  (pss_cons (ps_expr (pe_call GN (hr.mono (by decide)) (by rfl) XN.mg XN.F.kp XN.b .nil pass0 (pa_cons (pe_cmpR op_eq (pv 2) (pe_callB call_len_str (by rfl) h_len PySem.boot_len (pa_cons (pv 0) pa_nil)) (nomark _)) pa_nil)))
  (pss_one (ps_ret (pv 1)))))),?_⟩
  refine ⟨_,rfl,_,"str",_,_,rfl,.str _,rfl,rfl,?_⟩
  refine ⟨_,rfl,trS tr,0,1,tr,rfl,⟨by rw [List.drop_zero,<-len_toList,List.take_length],by (first|lia|omega)⟩,ok,d30,by (first|lia|omega),by (first|lia|omega),fun H1 t v s1 h1 dd=>?_⟩
  refine ⟨t,_,rfl,SqT.of h1,rfl,_,_,rfl,_,_,rfl,rfl,?_⟩
  refine ⟨_,rfl,_,rfl,_,rfl,by (first|lia|omega),rfl,?_⟩
  have e0:decide (V.int ((0 + (trS tr).length:Nat):Int)=V.int ((trS tr).length:Int))=true:=decide_eq_true (by rw [Nat.zero_add])
  rw [e0]
  exact ⟨rfl,_,rfl,k H1 v s1 dd⟩
end
end K76
namespace K76
open PySem L2
section
variable {P:Program} {w:World} {K:PySem.W.Frag} {mg:Str->Option Value} {base:Heap}
theorem ok_tree_text0 {f:Addr} {fd:FuncData} (F:Fun K "tree_text" "tree_text" s_tree_text f fd):FnOk P w K mg base CX0 1 f fd ["tree"] (spTT 0):=by
 refine F.ok sc_tree_text (fun vs H Q E h=>?_) (fun cdv A outer s H vs Q E hr h=>?_)
 ·obtain ⟨v,tr,rfl,_⟩:=h
  rfl
 ·obtain ⟨v,tr,rfl,_,_,d0,_⟩:=h
  have:=tr.dep1
  (first|lia|omega)
theorem ok_tree_textS {fR:Addr} {fdR:FuncData} (XR:Fn K mg "prices_text" s_prices_text ["prices"] fR fdR) (GR:FnOk P w K mg base CX0 1 fR fdR ["prices"] spPrT) {f:Addr} {fd:FuncData} (XT:Fn K mg "tree_text" s_tree_text ["tree"] f fd) {n:Nat} (GT:FnOk P w K mg base CX0 (n + 1) f fd ["tree"] (spTT n)):FnOk P w K mg base CX0 (n + 2) f fd ["tree"] (spTT (n + 1)):=by
 refine XT.F.ok sc_tree_text (fun vs H Q E h=>?_) (fun cdv A outer s H vs Q E hr h=>?_)
 ·obtain ⟨v,tr,rfl,_⟩:=h
  rfl
 ·obtain ⟨v,tr,rfl,dd,ok,dk,sz,k⟩:=h
  have nd:=sc_tree_text.nd
  have big:10000000 < sizeLine:=by decide
  have tl:=trS_len ok
  have c6:(Str.ofString "split(").length=6:=rfl
  have c5:(Str.ofString "leaf(").length=5:=rfl
  have c1:(Str.ofString ";").length=1:=rfl
  have c2:(Str.ofString ")").length=1:=rfl
  refine ⟨_,(pss_cons (ps_if (pt_cmpR op_eq (pe_ix ix_tup (pv 0) pe_int (fun _ _=>rfl)) pe_str (nomark _))
  (pss_cons (ps_asg (pv 0) (pg_tup rfl (pgs_cons (pg_name (i:=1) nd rfl (Or.inl rfl)) (pgs_cons (pg_name (i:=2) nd rfl (Or.inl rfl)) (pgs_cons (pg_name (i:=3) nd rfl (Or.inl rfl)) pgs_nil)))))
  (pss_one (ps_ret (pe_fstr (pj_cons pe_str (pj_cons (pe_fmt (pe_call GR (hr.mono (by (first|lia|omega))) (by rfl) XR.mg XR.F.kp XR.b .nil pass0 (pa_cons (pv 2) pa_nil))) (pj_cons pe_str (pj_cons (pe_fmt (pv 3)) (pj_cons pe_str pj_nil)))))))))
  pss_nil)
  (pss_cons (ps_asg (pv 0) (pg_tup rfl (pgs_cons (pg_name (i:=1) nd rfl (Or.inl rfl)) (pgs_cons (pg_name (i:=4) nd rfl (Or.inl rfl)) (pgs_cons (pg_name (i:=5) nd rfl (Or.inl rfl)) (pgs_cons (pg_name (i:=6) nd rfl (Or.inl rfl)) pgs_nil))))))
  (pss_one (ps_ret (pe_fstr (pj_cons pe_str (pj_cons (pe_fmt (pv 4)) (pj_cons pe_str (pj_cons (pe_fmt (pe_call GT (hr.mono (Nat.le_refl _)) (by rfl) XT.mg XT.F.kp XT.b .nil pass0 (pa_cons (pv 5) pa_nil))) (pj_cons pe_str (pj_cons (pe_fmt (pe_call GT (hr.mono (Nat.le_refl _)) (by rfl) XT.mg XT.F.kp XT.b .nil pass0 (pa_cons (pv 6) pa_nil))) (pj_cons pe_str pj_nil)))))))))))),?_⟩
  cases tr with
  | leaf rs m=>
   obtain ⟨t,q,us,rfl,ht,hq,du⟩:=leaf_at dd
   have lr:=prS_len ok.sr (by have:=ok.r4; (first|lia|omega))
   have ln:=num_len ok.n0 ok.n1
   refine ⟨_,rfl,t,_,_,_,rfl,rfl,SqT.of ht,rfl,rfl,_,rfl,?_⟩
   refine ite2 (fun _=>?_) (fun z=>absurd (decide_eq_true rfl) z)
   refine ⟨_,rfl,t,_,rfl,SqT.of ht,rfl,_,_,rfl,_,_,rfl,_,_,rfl,rfl,?_⟩
   refine ⟨_,rfl,by simp only [app_len,str_empty]; (first|lia|omega),_,rfl,q,us,rs,rfl,hq,du,ok.sr,by have:=ok.r4; (first|lia|omega),fun H1 s1=>.inl ⟨_,rfl,by (first|lia|omega),_,rfl,by simp only [app_len,str_empty]; (first|lia|omega),_,rfl,by simp only [app_len,str_empty]; (first|lia|omega),?_⟩⟩
   refine ⟨_,rfl,.inr ⟨m,rfl,num_log ok.n0 ok.n1,_,rfl,by simp only [app_len,str_empty]; show _ + (numS m).length<=_; (first|lia|omega),_,rfl,by simp only [app_len,str_empty]; show _ + (numS m).length + _<=_; (first|lia|omega),by simp only [app_len,str_empty]; show _ + (numS m).length + _<=_; (first|lia|omega),?_⟩⟩
   rw [str_empty]
   exact k _ s1
  | split x a b=>
   obtain ⟨t,va,vb,rfl,ht,da,db⟩:=split_at dd
   obtain ⟨okn,oka,okb⟩:=ok
   have ln:=name_len okn
   have la:=trS_len oka
   have lb:=trS_len okb
   rw [Tr.dep] at dk
   rw [Tr.siz] at sz
   refine ⟨_,rfl,t,_,_,_,rfl,rfl,SqT.of ht,rfl,rfl,_,rfl,?_⟩
   refine ite2 (fun z=>absurd (of_decide_eq_true z) split_ne) (fun _=>?_)
   refine ⟨_,rfl,t,_,rfl,SqT.of ht,rfl,_,_,rfl,_,_,rfl,_,_,rfl,_,_,rfl,rfl,?_⟩
   refine ⟨_,rfl,by simp only [app_len,str_empty]; (first|lia|omega),_,rfl,.inl ⟨_,rfl,by (first|lia|omega),_,rfl,by simp only [app_len,str_empty]; (first|lia|omega),_,rfl,by simp only [app_len,str_empty]; (first|lia|omega),?_⟩⟩
   refine ⟨_,rfl,va,a,rfl,da,oka,by (first|lia|omega),by (first|lia|omega),fun H1 s1=>.inl ⟨_,rfl,by (first|lia|omega),_,rfl,by simp only [app_len,str_empty]; (first|lia|omega),_,rfl,by simp only [app_len,str_empty]; (first|lia|omega),?_⟩⟩
   refine ⟨_,rfl,vb,b,rfl,db.same s1,okb,by (first|lia|omega),by (first|lia|omega),fun H2 s2=>.inl ⟨_,rfl,by (first|lia|omega),_,rfl,by simp only [app_len,str_empty]; (first|lia|omega),_,rfl,by simp only [app_len,str_empty]; (first|lia|omega),by simp only [app_len,str_empty]; (first|lia|omega),?_⟩⟩
   rw [str_empty]
   exact k _ (s1.trans s2)
theorem ok_tree_texts {fR:Addr} {fdR:FuncData} (XR:Fn K mg "prices_text" s_prices_text ["prices"] fR fdR) (GR:FnOk P w K mg base CX0 1 fR fdR ["prices"] spPrT) {f:Addr} {fd:FuncData} (XT:Fn K mg "tree_text" s_tree_text ["tree"] f fd) (n:Nat):FnOk P w K mg base CX0 (n + 1) f fd ["tree"] (spTT n):=by
 induction n with
 | zero=>exact ok_tree_text0 XT.F
 | succ n ih=>exact ok_tree_textS XR GR XT ih
theorem ok_tree_text {fR:Addr} {fdR:FuncData} (XR:Fn K mg "prices_text" s_prices_text ["prices"] fR fdR) (GR:FnOk P w K mg base CX0 1 fR fdR ["prices"] spPrT) {f:Addr} {fd:FuncData} (XT:Fn K mg "tree_text" s_tree_text ["tree"] f fd) (F:Fun K "tree_text" "tree_text" s_tree_text f fd):FnOk P w K mg base CX0 31 f fd ["tree"] (spTT 30):=by exact ok_tree_texts XR GR XT 30
theorem ok_law_tree_text0 {f:Addr} {fd:FuncData} (F:Fun K "_law_tree_text" "_law_tree_text" s_law_tree_text f fd):FnOk P w K mg base CX0 1 f fd ["_law_tree_here"] (spTT 0):=by
 refine F.ok sc_law_tree_text (fun vs H Q E h=>?_) (fun cdv A outer s H vs Q E hr h=>?_)
 ·obtain ⟨v,tr,rfl,_⟩:=h
  rfl
 ·obtain ⟨v,tr,rfl,_,_,d0,_⟩:=h
  have:=tr.dep1
  (first|lia|omega)
theorem ok_law_tree_textS (h_str:mg "str"=none) {fR:Addr} {fdR:FuncData} (XR:Fn K mg "_law_prices_text" s_law_prices_text ["_law_prices_here"] fR fdR) (GR:FnOk P w K mg base CX0 1 fR fdR ["_law_prices_here"] spPrT) {f:Addr} {fd:FuncData} (XT:Fn K mg "_law_tree_text" s_law_tree_text ["_law_tree_here"] f fd) {n:Nat} (GT:FnOk P w K mg base CX0 (n + 1) f fd ["_law_tree_here"] (spTT n)):FnOk P w K mg base CX0 (n + 2) f fd ["_law_tree_here"] (spTT (n + 1)):=by
 refine XT.F.ok sc_law_tree_text (fun vs H Q E h=>?_) (fun cdv A outer s H vs Q E hr h=>?_)
 ·obtain ⟨v,tr,rfl,_⟩:=h
  rfl
 ·obtain ⟨v,tr,rfl,dd,ok,dk,sz,k⟩:=h
  have nd:=sc_law_tree_text.nd
  have big:10000000 < sizeLine:=by decide
  have tl:=trS_len ok
  have c6:(Str.ofString "split(").length=6:=rfl
  have c5:(Str.ofString "leaf(").length=5:=rfl
  have c1:(Str.ofString ";").length=1:=rfl
  have c2:(Str.ofString ")").length=1:=rfl
  refine ⟨_,(pss_cons (ps_if (pt_cmpR op_eq (pe_ix ix_tup (pv 0) pe_int (fun _ _=>rfl)) pe_str (nomark _))
  (pss_one (ps_ret (pe_op op_add_str (pe_op op_add_str (pe_op op_add_str (pe_op op_add_str pe_str (pe_call GR (hr.mono (by (first|lia|omega))) (by rfl) XR.mg XR.F.kp XR.b .nil pass0 (pa_cons (pe_ix ix_tup (pv 0) pe_int (fun _ _=>rfl)) pa_nil))) pe_str) (pe_callTy call_str_int (by rfl) h_str PyProof.Rows.boot_str (pa_cons (pe_ix ix_tup (pv 0) pe_int (fun _ _=>rfl)) pa_nil))) pe_str)))
  pss_nil)
  (pss_cons (ps_set (i:=1) nd rfl (Or.inl rfl) (pe_lst (pa_cons (pe_ix ix_tup (pv 0) pe_int (fun _ _=>rfl)) (pa_cons (pe_call GT (hr.mono (Nat.le_refl _)) (by rfl) XT.mg XT.F.kp XT.b .nil pass0 (pa_cons (pe_ix ix_tup (pv 0) pe_int (fun _ _=>rfl)) pa_nil)) (pa_cons (pe_call GT (hr.mono (Nat.le_refl _)) (by rfl) XT.mg XT.F.kp XT.b .nil pass0 (pa_cons (pe_ix ix_tup (pv 0) pe_int (fun _ _=>rfl)) pa_nil)) pa_nil)))))
  (pss_one (ps_ret (pe_op op_add_str (pe_op op_add_str pe_str (pe_bm PySem.F.plainAttrs_str PySem.F.slot_str_join PySem.F.type_str_join mt_join pe_str (pa_cons (pv 1) pa_nil))) pe_str))))),?_⟩
  cases tr with
  | leaf rs m=>
   obtain ⟨t,q,us,rfl,ht,hq,du⟩:=leaf_at dd
   have lr:=prS_len ok.sr (by have:=ok.r4; (first|lia|omega))
   have ln:=num_len ok.n0 ok.n1
   refine ⟨_,rfl,t,_,_,_,rfl,rfl,SqT.of ht,rfl,rfl,_,rfl,?_⟩
   refine ite2 (fun _=>?_) (fun z=>absurd (decide_eq_true rfl) z)
   refine ⟨_,rfl,t,_,_,_,rfl,rfl,SqT.of ht,rfl,q,us,rs,rfl,hq,du,ok.sr,by have:=ok.r4; (first|lia|omega),fun H1 s1=>⟨_,_,rfl,rfl,by (first|lia|omega),_,_,rfl,rfl,by rw [app_len]; (first|lia|omega),?_⟩⟩
   refine ⟨_,rfl,t,_,_,_,rfl,rfl,SqT.of (s1 _ _ ht),rfl,m,rfl,num_log ok.n0 ok.n1,_,_,rfl,rfl,by simp only [app_len]; show _ + (numS m).length<=_; (first|lia|omega),_,_,rfl,rfl,by simp only [app_len]; show _ + (numS m).length + _<=_; (first|lia|omega),?_⟩
   exact k _ s1
  | split x a b=>
   obtain ⟨t,va,vb,rfl,ht,da,db⟩:=split_at dd
   obtain ⟨okn,oka,okb⟩:=ok
   have ln:=name_len okn
   have la:=trS_len oka
   have lb:=trS_len okb
   rw [Tr.dep] at dk
   rw [Tr.siz] at sz
   refine ⟨_,rfl,t,_,_,_,rfl,rfl,SqT.of ht,rfl,rfl,_,rfl,?_⟩
   refine ite2 (fun z=>absurd (of_decide_eq_true z) split_ne) (fun _=>?_)
   refine ⟨_,rfl,t,_,_,_,rfl,rfl,SqT.of ht,rfl,_,rfl,t,_,_,_,rfl,rfl,SqT.of ht,rfl,va,a,rfl,da,oka,by (first|lia|omega),by (first|lia|omega),fun H1 s1=>?_⟩
   refine ⟨_,rfl,t,_,_,_,rfl,rfl,SqT.of (s1 _ _ ht),rfl,vb,b,rfl,db.same s1,okb,by (first|lia|omega),by (first|lia|omega),fun H2 s2=>⟨(by show 3<=sizeLine; (first|lia|omega)),fun L hL=>?_⟩⟩
   refine ⟨rfl,_,rfl,_,L,[x,trS a,trS b],rfl,rfl,upd_same,by decide,?_,?_⟩
   ·simp only [List.map_cons,List.map_nil,List.sum_cons,List.sum_nil,List.length_cons,List.length_nil]
    (first|lia|omega)
   have jl:(Txt.join (Str.ofString ";") [x,trS a,trS b]).length<=3 * (840000 + 1):=join_len (y:=";") (B:=840000) (ps:=[x,trS a,trS b]) fun p hp=>by
    simp only [List.mem_cons,List.not_mem_nil,or_false] at hp
    rcases hp with rfl | rfl | rfl <;> (first|lia|omega)
   refine ⟨_,_,rfl,rfl,by (first|lia|omega),_,_,rfl,rfl,by rw [app_len]; (first|lia|omega),?_⟩
   rw [three_join]
   exact k _ (s1.trans (s2.trans (same_upd hL)))
theorem ok_law_tree_texts (h_str:mg "str"=none) {fR:Addr} {fdR:FuncData} (XR:Fn K mg "_law_prices_text" s_law_prices_text ["_law_prices_here"] fR fdR) (GR:FnOk P w K mg base CX0 1 fR fdR ["_law_prices_here"] spPrT) {f:Addr} {fd:FuncData} (XT:Fn K mg "_law_tree_text" s_law_tree_text ["_law_tree_here"] f fd) (n:Nat):FnOk P w K mg base CX0 (n + 1) f fd ["_law_tree_here"] (spTT n):=by
 induction n with
 | zero=>exact ok_law_tree_text0 XT.F
 | succ n ih=>exact ok_law_tree_textS h_str XR GR XT ih
theorem ok_law_tree_text (h_str:mg "str"=none) {fR:Addr} {fdR:FuncData} (XR:Fn K mg "_law_prices_text" s_law_prices_text ["_law_prices_here"] fR fdR) (GR:FnOk P w K mg base CX0 1 fR fdR ["_law_prices_here"] spPrT) {f:Addr} {fd:FuncData} (XT:Fn K mg "_law_tree_text" s_law_tree_text ["_law_tree_here"] f fd) (F:Fun K "_law_tree_text" "_law_tree_text" s_law_tree_text f fd):FnOk P w K mg base CX0 31 f fd ["_law_tree_here"] (spTT 30):=by exact ok_law_tree_texts h_str XR GR XT 30
end
end K76
namespace K76
open PySem L2
section
variable {P:Program} {w:World} {K:PySem.W.Frag} {mg:Str->Option Value} {base:Heap}
theorem ok_law_leaf {fA fR fP:Addr} {fdA fdR fdP:FuncData} (XA:Fn K mg "_law_amount" s_law_amount ["_law_pen_here","_law_least"] fA fdA) (GA:FnOk P w K mg base CX0 2 fA fdA ["_law_pen_here","_law_least"] (spAmt K)) (XR:Fn K mg "_law_rising" s_law_rising ["_law_pen_here","_law_most"] fR fdR) (GR:FnOk P w K mg base CX0 3 fR fdR ["_law_pen_here","_law_most"] (spRisL K)) (XP:Fn K mg "_law_prices" s_law_prices ["_law_pen_here","_law_places"] fP fdP) (GP:FnOk P w K mg base CX0 3 fP fdP ["_law_pen_here","_law_places"] (spPrL K)) {f:Addr} {fd:FuncData} (F:Fun K "_law_leaf" "_law_leaf" s_law_leaf f fd):FnOk P w K mg base CX0 4 f fd ["_law_pen_here"] (spLeafL K):=by
 refine F.ok sc_law_leaf (fun vs H Q E h=>?_) (fun cdv A outer s H vs Q E hr h=>?_)
 ·obtain ⟨p,a,ns,rfl,_⟩:=h
  rfl
 ·obtain ⟨p,a,ns,rfl,hP,hlen,k⟩:=h
  have nd:=sc_law_leaf.nd
  have big:1000 < sizeLine:=by decide
  refine ⟨_,(pss_one (ps_ret (pe_tup (pa_cons pe_str (pa_cons (pe_call GP (hr.mono (by decide)) (by rfl) XP.mg XP.F.kp XP.b .nil pass0 (pa_cons (pv 0) (pa_cons (pe_call GR (hr.mono (by decide)) (by rfl) XR.mg XR.F.kp XR.b .nil pass0 (pa_cons (pv 0) (pa_cons pe_int pa_nil))) pa_nil))) (pa_cons (pe_call GA (hr.mono (by decide)) (by rfl) XA.mg XA.F.kp XA.b .nil pass0 (pa_cons (pv 0) (pa_cons pe_int pa_nil))) pa_nil)))))),?_⟩
  refine ⟨_,rfl,_,rfl,p,a,ns,3,rfl,hP,hlen,by decide,by decide,fun H1 D ss P1 k1 h1 sne s9 sri snm=>?_⟩
  refine ⟨p,a,ns,D,ss,rfl,P1,hlen,h1,s9,fun H2 t us rs P2 k2 h2 d2 rt r01=>?_⟩
  refine ⟨_,rfl,p,a,ns,0,rfl,P2,hlen,by decide,by decide,fun n H3 n0 n1 P3 k3=>⟨(by show 3<=sizeLine; (first|lia|omega)),fun T hT=>?_⟩⟩
  have q:=same_upd (o:=.tup [.str "leaf",.ref t,.int n]) hT
  have ntp:t ≠ p:=P2.ne h2 (fun kvs=>by intro z; cases z)
  exact k _ (.ref T) rs n (P3.same q) (k1.trans (k2.trans (k3.trans (Keep.of_same q)))) (leaf_dat upd_same (q _ _ (k3 _ _ ntp h2)) (P2.dats (k3.trans (Keep.of_same q)) d2)) (LeafOk.of rt r01 sne s9 sri snm n0 n1)
theorem ok_law_tree (h_range:mg "range"=none) {fT fN fL:Addr} {fdT fdN fdL:FuncData} (TK:TakeF K mg fT fdT) (GT:FnOk P w K mg base CX0 1 fT fdT ["_law_pen_here","_law_many"] (spTake K)) (XN:Fn K mg "_law_names" s_law_names ["_law_pen_here","_law_many"] fN fdN) (GN:FnOk P w K mg base CX0 2 fN fdN ["_law_pen_here","_law_many"] (spNames K)) (XL:Fn K mg "_law_leaf" s_law_leaf ["_law_pen_here"] fL fdL) (GL:FnOk P w K mg base CX0 4 fL fdL ["_law_pen_here"] (spLeafL K)) {f:Addr} {fd:FuncData} (F:Fun K "_law_tree" "_law_tree" s_law_tree f fd):FnOk P w K mg base CX0 5 f fd ["_law_pen_here","_law_deep"] (spTreeL K):=by
 refine F.ok sc_law_tree (fun vs H Q E h=>?_) (fun cdv A outer s H vs Q E hr h=>?_)
 ·obtain ⟨p,a,ns,rfl,_⟩:=h
  rfl
 ·obtain ⟨p,a,ns,rfl,⟨i0,l0,hP0⟩,hlen,k⟩:=h
  have nd:=sc_law_tree.nd
  have big:1000 < sizeLine:=by decide
  refine ⟨_,(pss_cons (ps_set (i:=2) nd rfl (Or.inl rfl) (pe_call GT (hr.mono (by decide)) (by rfl) TK.mg TK.F.kp TK.b .nil pass0 (pa_cons (pv 0) (pa_cons pe_int pa_nil))))
  (pss_cons (ps_set (i:=3) nd rfl (Or.inl rfl) (pe_call GL (hr.mono (by decide)) (by rfl) XL.mg XL.F.kp XL.b .nil pass0 (pa_cons (pv 0) pa_nil)))
  (pss_cons (ps_if (pt_cmpR op_eq (pv 2) pe_int (nomark _))
  (pss_one (ps_ret (pv 3)))
  pss_nil)
  (pss_cons (ps_if (pt_cmpR op_eq (pv 2) pe_int (nomark _))
  (pss_cons (ps_for PassesOwn.never rfl (pi_range1 (by rfl) h_range (pa_cons (pe_op op_sub (pv 1) pe_int) pa_nil)) (pg_name (i:=4) nd rfl (Or.inl rfl))
  (pss_cons (ps_set (i:=5) nd rfl (Or.inl rfl) (pe_lst (pa_cons (pv 3) (pa_cons (pe_call GL (hr.mono (by decide)) (by rfl) XL.mg XL.F.kp XL.b .nil pass0 (pa_cons (pv 0) pa_nil)) pa_nil))))
  (pss_cons (ps_set (i:=6) nd rfl (Or.inl rfl) (pe_call GT (hr.mono (by decide)) (by rfl) TK.mg TK.F.kp TK.b .nil pass0 (pa_cons (pv 0) (pa_cons pe_int pa_nil))))
  (pss_one (ps_set (i:=3) nd rfl (Or.inl rfl) (pe_tup (pa_cons pe_str (pa_cons (pe_ix ix_list (pe_call GN (hr.mono (by decide)) (by rfl) XN.mg XN.F.kp XN.b .nil pass0 (pa_cons (pv 0) (pa_cons pe_int pa_nil))) pe_int (fun _ _=>rfl)) (pa_cons (pe_ix ix_list (pv 5) (pv 6) (fun _ _=>rfl)) (pa_cons (pe_ix ix_list (pv 5) (pe_op op_sub pe_int (pv 6)) (fun _ _=>rfl)) pa_nil))))))))))
  (pss_one (ps_ret (pv 3))))
  pss_nil)
  (pss_cons (ps_for PassesOwn.never rfl (pi_range1 (by rfl) h_range (pa_cons (pe_op op_add pe_int (pe_call GT (hr.mono (by decide)) (by rfl) TK.mg TK.F.kp TK.b .nil pass0 (pa_cons (pv 0) (pa_cons pe_int pa_nil)))) pa_nil)) (pg_name (i:=4) nd rfl (Or.inl rfl))
  (pss_cons (ps_set (i:=7) nd rfl (Or.inl rfl) (pe_call GL (hr.mono (by decide)) (by rfl) XL.mg XL.F.kp XL.b .nil pass0 (pa_cons (pv 0) pa_nil)))
  (pss_cons (ps_if (pt_cmpR op_eq (pe_call GT (hr.mono (by decide)) (by rfl) TK.mg TK.F.kp TK.b .nil pass0 (pa_cons (pv 0) (pa_cons pe_int pa_nil))) pe_int (nomark _))
  (pss_one (ps_set (i:=7) nd rfl (Or.inl rfl) (pe_tup (pa_cons pe_str (pa_cons (pe_ix ix_list (pe_call GN (hr.mono (by decide)) (by rfl) XN.mg XN.F.kp XN.b .nil pass0 (pa_cons (pv 0) (pa_cons pe_int pa_nil))) pe_int (fun _ _=>rfl)) (pa_cons (pv 7) (pa_cons (pv 3) pa_nil)))))))
  pss_nil)
  (pss_cons (ps_set (i:=5) nd rfl (Or.inl rfl) (pe_lst (pa_cons (pv 3) (pa_cons (pv 7) pa_nil))))
  (pss_cons (ps_set (i:=6) nd rfl (Or.inl rfl) (pe_call GT (hr.mono (by decide)) (by rfl) TK.mg TK.F.kp TK.b .nil pass0 (pa_cons (pv 0) (pa_cons pe_int pa_nil))))
  (pss_one (ps_set (i:=3) nd rfl (Or.inl rfl) (pe_tup (pa_cons pe_str (pa_cons (pe_ix ix_list (pe_call GN (hr.mono (by decide)) (by rfl) XN.mg XN.F.kp XN.b .nil pass0 (pa_cons (pv 0) (pa_cons pe_int pa_nil))) pe_int (fun _ _=>rfl)) (pa_cons (pe_ix ix_list (pv 5) (pv 6) (fun _ _=>rfl)) (pa_cons (pe_ix ix_list (pv 5) (pe_op op_sub pe_int (pv 6)) (fun _ _=>rfl)) pa_nil))))))))))))
  (pss_one (ps_ret (pv 3)))))))),?_⟩
  refine ⟨_,rfl,p,a,ns,i0,l0,6,rfl,hP0,by decide,by decide,hlen,fun d i1 l1 da db P1=>?_⟩
  have PX1:PenX K (upd H p (.dK (penK a i1 l1))) p a ns:=⟨i1,l1,P1⟩
  have k1:Keep p H (upd H p (.dK (penK a i1 l1))):=Keep.upd
  generalize upd H p (.dK (penK a i1 l1))=H1 at k1 PX1
  refine ⟨_,rfl,p,a,ns,rfl,PX1,hlen,fun H2 v0 rs0 n0 P2 k2 dv0 ok0=>?_⟩
  have d1:(Tr.leaf rs0 n0).dep=1:=rfl
  have s1:(Tr.leaf rs0 n0).siz=1:=rfl
  refine ⟨_,rfl,rfl,_,rfl,?_⟩
  refine ite2 (fun _=>⟨_,rfl,k H2 v0 (.leaf rs0 n0) P2 (k1.trans k2) dv0 ok0 (by (first|lia|omega)) (by (first|lia|omega))⟩) (fun _=>?_)
  refine ⟨_,rfl,rfl,_,rfl,?_⟩
  refine ite2 (fun _=>?_) (fun _=>?_)
  ·refine ⟨_,rfl,_,_,rfl,rfl,29,rfl,by decide,by decide,for_range (n:=29) (fun j σ H'=>∃ (v4 v5 v6 v7:Option V) (v:V) (tr:Tr),σ=[some (.ref p),some (.int 30),some (.int d),some v,v4,v5,v6,v7]/\PenX K H' p a ns/\Keep p H2 H'/\Dat H' v (trD tr)/\tr.ok/\tr.dep<=j + 1/\tr.siz<=2 * j + 1) ⟨_,_,_,_,v0,.leaf rs0 n0,rfl,P2,Keep.refl _ _,dv0,ok0,by (first|lia|omega),by (first|lia|omega)⟩ ?_ ?_⟩
   ·rintro j σ H3 hj ⟨v4,v5,v6,v7,v,tr,rfl,P3,k3,dv,okv,dp,sz⟩
    refine ⟨_,rfl,_,rfl,p,a,ns,rfl,P3,hlen,fun H4 u rs n P4 k4 du oku'=>⟨(by show 2<=sizeLine; (first|lia|omega)),fun L hL=>?_⟩⟩
    have oku:(Tr.leaf rs n).ok:=oku'
    have q4:=same_upd (o:=.lst [v,u]) hL
    have hLL:(upd H4 L (.lst [v,u])) L=some (.lst [v,u]):=upd_same
    have P5:=P4.same q4
    have k25:=k3.trans (k4.trans (Keep.of_same q4))
    have dv:=(P3.dat k4 dv).same q4
    have du:=du.same q4
    have dp1:tr.dep<=j + 1:=dp
    have dp2:(Tr.leaf rs n).dep<=j + 1:=by rw [Tr.dep]; (first|lia|omega)
    have z1:(Tr.leaf rs n).siz=1:=rfl
    generalize upd H4 L (.lst [v,u])=H5 at hLL P5 k25 dv du
    obtain ⟨i5,l5,P5'⟩:=id P5
    refine ⟨_,rfl,p,a,ns,i5,l5,2,rfl,P5',by decide,by decide,hlen,fun e i6 l6 ea eb P6=>?_⟩
    have nLp:L ≠ p:=P5.ne hLL (fun kvs=>by intro z; cases z)
    have k6:Keep p H5 (upd H5 p (.dK (penK a i6 l6))):=Keep.upd
    generalize upd H5 p (.dK (penK a i6 l6))=H6 at k6 P6
    refine ⟨_,rfl,p,a,ns,i6,l6,1,rfl,P6,hlen,by decide,fun H7 D xs i7 l7 P7 k7 hDn hD xl xnd xnm=>?_⟩
    have PX7:PenX K H7 p a ns:=⟨i7,l7,P7⟩
    obtain ⟨x,rfl⟩:∃ x,xs=[x]:=List.length_eq_one_iff.mp xl
    have k57:=k6.trans k7
    have hL7:=k57 _ _ nLp hLL
    obtain ⟨ya,yb,ta,tb,e1,e2,dya,dyb,oka,okb,m1,m2,sm⟩:=two_of ea eb (P5.dat k57 dv) (P5.dat k57 du) okv oku dp1 dp2 (Nat.le_refl _)
    refine ⟨D,_,_,_,rfl,rfl,SqL.of hD,rfl,?_⟩
    refine ⟨_,rfl,_,rfl,L,_,_,_,rfl,rfl,SqL.of hL7,e1,?_⟩
    refine ⟨_,rfl,_,rfl,_,_,rfl,rfl,L,_,_,_,rfl,rfl,SqL.of hL7,e2,?_⟩
    refine ⟨(by show 4<=sizeLine; (first|lia|omega)),fun T hT=>?_⟩
    have q:=same_upd (o:=.tup [.str "split",.str x,ya,yb]) hT
    refine ⟨_,_,_,_,.ref T,.split x ta tb,rfl,PX7.same q,k25.trans (k57.trans (Keep.of_same q)),split_dat upd_same (dya.same q) (dyb.same q),⟨xnm _ (List.mem_singleton.mpr rfl),oka,okb⟩,by rw [Tr.dep]; (first|lia|omega),by rw [Tr.siz]; (first|lia|omega)⟩
   ·rintro σ H3 ⟨v4,v5,v6,v7,v,tr,rfl,P3,k3,dv,okv,dp,sz⟩
    exact ⟨_,rfl,k H3 v tr P3 (k1.trans (k2.trans k3)) dv okv (by (first|lia|omega)) (by (first|lia|omega))⟩
  ·obtain ⟨i2,l2,P2'⟩:=id P2
   refine ⟨_,rfl,p,a,ns,i2,l2,4,rfl,P2',by decide,by decide,hlen,fun m i3 l3 ma mb P3'=>?_⟩
   have PX3:PenX K (upd H2 p (.dK (penK a i3 l3))) p a ns:=⟨i3,l3,P3'⟩
   have k23:Keep p H2 (upd H2 p (.dK (penK a i3 l3))):=Keep.upd
   generalize upd H2 p (.dK (penK a i3 l3))=HS at PX3 k23
   have dvS:=P2.dat k23 dv0
   refine ⟨_,_,rfl,rfl,1 + m,rfl,by (first|lia|omega),by (first|lia|omega),for_range (n:=(1 + m).toNat) (fun j σ H'=>∃ (v4 v5 v6 v7:Option V) (v:V) (tr:Tr),σ=[some (.ref p),some (.int 30),some (.int d),some v,v4,v5,v6,v7]/\PenX K H' p a ns/\Keep p HS H'/\Dat H' v (trD tr)/\tr.ok/\tr.dep<=2 * j + 1/\tr.siz + 3<=4 * 2 ^ j) ⟨_,_,_,_,v0,.leaf rs0 n0,rfl,PX3,Keep.refl _ _,dvS,ok0,by (first|lia|omega),by (first|lia|omega)⟩ ?_ ?_⟩
   ·rintro j σ H3 hj ⟨v4,v5,v6,v7,v,tr,rfl,P3,k3,dv,okv,dp,sz⟩
    have pw:2 ^ (j + 1)=2 ^ j * 2:=Nat.pow_succ _ _
    refine ⟨_,rfl,p,a,ns,rfl,P3,hlen,fun H4 u rs n P4 k4 du oku'=>?_⟩
    have oku:(Tr.leaf rs n).ok:=oku'
    have dv:=P3.dat k4 dv
    have k24:=k3.trans k4
    obtain ⟨i4,l4,P4'⟩:=id P4
    refine ⟨_,rfl,p,a,ns,i4,l4,3,rfl,P4',by decide,by decide,hlen,fun c i8 l8 ca cb P8=>?_⟩
    have PX8:PenX K (upd H4 p (.dK (penK a i8 l8))) p a ns:=⟨i8,l8,P8⟩
    have k8:Keep p H4 (upd H4 p (.dK (penK a i8 l8))):=Keep.upd
    have dv:=P4.dat k8 dv
    have du:=P4.dat k8 du
    have k28:=k24.trans k8
    generalize upd H4 p (.dK (penK a i8 l8))=H8 at PX8 k8 dv du k28 P8
    refine ⟨rfl,_,rfl,?_⟩
    refine ite2 (fun _=>?_) (fun _=>?_)
    ·refine ⟨_,rfl,p,a,ns,i8,l8,1,rfl,P8,hlen,by decide,fun H9 D xs i9 l9 P9 k9 hDn hD xl xnd xnm=>?_⟩
     have PX9:PenX K H9 p a ns:=⟨i9,l9,P9⟩
     obtain ⟨x,rfl⟩:∃ x,xs=[x]:=List.length_eq_one_iff.mp xl
     refine ⟨D,_,_,_,rfl,rfl,SqL.of hD,rfl,_,rfl,_,rfl,(by show 4<=sizeLine; (first|lia|omega)),fun T hT=>?_⟩
     have q9:=same_upd (o:=.tup [.str "split",.str x,u,v]) hT
     have dv9:=PX8.dat k9 dv
     have du9:=PX8.dat k9 du
     have dw:Dat (upd H9 T (.tup [.str "split",.str x,u,v])) (.ref T) (trD (.split x (.leaf rs n) tr)):=split_dat upd_same (du9.same q9) (dv9.same q9)
     have dv:=dv9.same q9
     have PX10:=PX9.same q9
     have k210:=k28.trans (k9.trans (Keep.of_same q9))
     have okw:(Tr.split x (.leaf rs n) tr).ok:=⟨xnm _ (List.mem_singleton.mpr rfl),oku,okv⟩
     generalize upd H9 T (.tup [.str "split",.str x,u,v])=H10 at dw dv PX10 k210
     refine ⟨_,rfl,_,rfl,(by show 2<=sizeLine; (first|lia|omega)),fun L hL=>?_⟩
     have q4:=same_upd (o:=.lst [v,.ref T]) hL
     have hLL:(upd H10 L (.lst [v,.ref T])) L=some (.lst [v,.ref T]):=upd_same
     have P5:=PX10.same q4
     have k25:=k210.trans (Keep.of_same q4)
     have dv:=dv.same q4
     have du:=dw.same q4
     have oku:=okw
     have dp1:tr.dep<=2 * j + 2:=by (first|lia|omega)
     have t1:=tr.dep1
     have dp2:(Tr.split x (.leaf rs n) tr).dep<=2 * j + 2:=by rw [Tr.dep,Tr.dep]; (first|lia|omega)
     have z1:(Tr.split x (.leaf rs n) tr).siz=1 + 1 + tr.siz:=rfl
     generalize upd H10 L (.lst [v,.ref T])=H5 at hLL P5 k25 dv du
     obtain ⟨i5,l5,P5'⟩:=id P5
     refine ⟨_,rfl,p,a,ns,i5,l5,2,rfl,P5',by decide,by decide,hlen,fun e i6 l6 ea eb P6=>?_⟩
     have nLp:L ≠ p:=P5.ne hLL (fun kvs=>by intro z; cases z)
     have k6:Keep p H5 (upd H5 p (.dK (penK a i6 l6))):=Keep.upd
     generalize upd H5 p (.dK (penK a i6 l6))=H6 at k6 P6
     refine ⟨_,rfl,p,a,ns,i6,l6,1,rfl,P6,hlen,by decide,fun H7 D xs i7 l7 P7 k7 hDn hD xl xnd xnm=>?_⟩
     have PX7:PenX K H7 p a ns:=⟨i7,l7,P7⟩
     obtain ⟨x,rfl⟩:∃ x,xs=[x]:=List.length_eq_one_iff.mp xl
     have k57:=k6.trans k7
     have hL7:=k57 _ _ nLp hLL
     obtain ⟨ya,yb,ta,tb,e1,e2,dya,dyb,oka,okb,m1,m2,sm⟩:=two_of ea eb (P5.dat k57 dv) (P5.dat k57 du) okv oku dp1 dp2 (Nat.le_refl _)
     refine ⟨D,_,_,_,rfl,rfl,SqL.of hD,rfl,?_⟩
     refine ⟨_,rfl,_,rfl,L,_,_,_,rfl,rfl,SqL.of hL7,e1,?_⟩
     refine ⟨_,rfl,_,rfl,_,_,rfl,rfl,L,_,_,_,rfl,rfl,SqL.of hL7,e2,?_⟩
     refine ⟨(by show 4<=sizeLine; (first|lia|omega)),fun T hT=>?_⟩
     have q:=same_upd (o:=.tup [.str "split",.str x,ya,yb]) hT
     refine ⟨_,_,_,_,.ref T,.split x ta tb,rfl,PX7.same q,k25.trans (k57.trans (Keep.of_same q)),split_dat upd_same (dya.same q) (dyb.same q),⟨xnm _ (List.mem_singleton.mpr rfl),oka,okb⟩,by rw [Tr.dep]; (first|lia|omega),by rw [Tr.siz]; (first|lia|omega)⟩
    ·refine ⟨_,rfl,_,rfl,(by show 2<=sizeLine; (first|lia|omega)),fun L hL=>?_⟩
     have q4:=same_upd (o:=.lst [v,u]) hL
     have hLL:(upd H8 L (.lst [v,u])) L=some (.lst [v,u]):=upd_same
     have P5:=PX8.same q4
     have k25:=k28.trans (Keep.of_same q4)
     have dv:=dv.same q4
     have du:=du.same q4
     have dp1:tr.dep<=2 * j + 2:=by (first|lia|omega)
     have dp2:(Tr.leaf rs n).dep<=2 * j + 2:=by rw [Tr.dep]; (first|lia|omega)
     have z1:(Tr.leaf rs n).siz=1:=rfl
     have t1:=tr.siz1
     generalize upd H8 L (.lst [v,u])=H5 at hLL P5 k25 dv du
     obtain ⟨i5,l5,P5'⟩:=id P5
     refine ⟨_,rfl,p,a,ns,i5,l5,2,rfl,P5',by decide,by decide,hlen,fun e i6 l6 ea eb P6=>?_⟩
     have nLp:L ≠ p:=P5.ne hLL (fun kvs=>by intro z; cases z)
     have k6:Keep p H5 (upd H5 p (.dK (penK a i6 l6))):=Keep.upd
     generalize upd H5 p (.dK (penK a i6 l6))=H6 at k6 P6
     refine ⟨_,rfl,p,a,ns,i6,l6,1,rfl,P6,hlen,by decide,fun H7 D xs i7 l7 P7 k7 hDn hD xl xnd xnm=>?_⟩
     have PX7:PenX K H7 p a ns:=⟨i7,l7,P7⟩
     obtain ⟨x,rfl⟩:∃ x,xs=[x]:=List.length_eq_one_iff.mp xl
     have k57:=k6.trans k7
     have hL7:=k57 _ _ nLp hLL
     obtain ⟨ya,yb,ta,tb,e1,e2,dya,dyb,oka,okb,m1,m2,sm⟩:=two_of ea eb (P5.dat k57 dv) (P5.dat k57 du) okv oku dp1 dp2 (Nat.le_refl _)
     refine ⟨D,_,_,_,rfl,rfl,SqL.of hD,rfl,?_⟩
     refine ⟨_,rfl,_,rfl,L,_,_,_,rfl,rfl,SqL.of hL7,e1,?_⟩
     refine ⟨_,rfl,_,rfl,_,_,rfl,rfl,L,_,_,_,rfl,rfl,SqL.of hL7,e2,?_⟩
     refine ⟨(by show 4<=sizeLine; (first|lia|omega)),fun T hT=>?_⟩
     have q:=same_upd (o:=.tup [.str "split",.str x,ya,yb]) hT
     refine ⟨_,_,_,_,.ref T,.split x ta tb,rfl,PX7.same q,k25.trans (k57.trans (Keep.of_same q)),split_dat upd_same (dya.same q) (dyb.same q),⟨xnm _ (List.mem_singleton.mpr rfl),oka,okb⟩,by rw [Tr.dep]; (first|lia|omega),by rw [Tr.siz]; (first|lia|omega)⟩
   ·rintro σ H3 ⟨v4,v5,v6,v7,v,tr,rfl,P3,k3,dv,okv,dp,sz⟩
    have n4:(1 + m).toNat<=4:=by (first|lia|omega)
    have pw:2 ^ (1 + m).toNat<=2 ^ 4:=Nat.pow_le_pow_right (by decide) n4
    exact ⟨_,rfl,k H3 v tr P3 (k1.trans (k2.trans (k23.trans k3))) dv okv (by (first|lia|omega)) (by (first|lia|omega))⟩
end
end K76
namespace K76
open PySem L2
def spLaw (K:PySem.W.Frag):Sp:=fun vs H Q _=>∃ (a:Addr) (ns:List Int),vs=[.ref a]/\Scr K H a (ns.map V.int)/\ns.length<=63/\∀ H',Q (.bl true) H'
section
variable {P:Program} {w:World} {K:PySem.W.Frag} {mg:Str->Option Value} {base:Heap}
theorem ok_sames (h_bool:mg "bool"=none) (h_int:mg "int"=none) (h_isinstance:mg "isinstance"=none) (h_len:mg "len"=none) (h_range:mg "range"=none) (h_str:mg "str"=none) (h_tuple:mg "tuple"=none) {f:Addr} {fd:FuncData} (XS:Fn K mg "_law_same" s_law_same ["_law_told","_law_due"] f fd) (n:Nat):FnOk P w K mg base CX0 (n + 1) f fd ["_law_told","_law_due"] (spSame n):=by
 induction n with
 | zero=>exact ok_same0 h_bool h_int h_isinstance h_len h_range h_str h_tuple XS.F
 | succ n ih=>exact ok_sameS h_bool h_int h_isinstance h_len h_range h_str h_tuple XS ih
theorem ok_law_same (h_bool:mg "bool"=none) (h_int:mg "int"=none) (h_isinstance:mg "isinstance"=none) (h_len:mg "len"=none) (h_range:mg "range"=none) (h_str:mg "str"=none) (h_tuple:mg "tuple"=none) {f:Addr} {fd:FuncData} (XS:Fn K mg "_law_same" s_law_same ["_law_told","_law_due"] f fd) (F:Fun K "_law_same" "_law_same" s_law_same f fd):FnOk P w K mg base CX0 33 f fd ["_law_told","_law_due"] (spSame 32):=by exact ok_sames h_bool h_int h_isinstance h_len h_range h_str h_tuple XS 32
theorem ok_law (h_isinstance:mg "isinstance"=none) (h_range:mg "range"=none) (h_str:mg "str"=none)
  {fE fP fS fQ fW fZ f:Addr} {fdE fdP fdS fdQ fdW fdZ fd:FuncData} (XE:Fn K mg "_law_pen" s_law_pen ["_law_script"] fE fdE) (GE:FnOk P w K mg base CX0 1 fE fdE ["_law_script"] (spPen K))
  (XP:Fn K mg "_law_tree" s_law_tree ["_law_pen_here","_law_deep"] fP fdP) (GP:FnOk P w K mg base CX0 5 fP fdP ["_law_pen_here","_law_deep"] (spTreeL K)) (XS:Fn K mg "_law_same" s_law_same ["_law_told","_law_due"] fS fdS) (GS:FnOk P w K mg base CX0 33 fS fdS ["_law_told","_law_due"] (spSame 32))
  (XQ:Fn K mg "tree_text" s_tree_text ["tree"] fQ fdQ) (GQ:FnOk P w K mg base CX0 31 fQ fdQ ["tree"] (spTT 30)) (XW:Fn K mg "read_tree" s_read_tree ["text"] fW fdW) (GW:FnOk P w K mg base CX0 36 fW fdW ["text"] spReadT)
  (XZ:Fn K mg "_law_tree_text" s_law_tree_text ["_law_tree_here"] fZ fdZ) (GZ:FnOk P w K mg base CX0 31 fZ fdZ ["_law_tree_here"] (spTT 30))
  (F:Fun K "law" "law" s_law f fd):FnOk P w K mg base CX0 37 f fd ["_law_script"] (spLaw K):=by
 refine F.ok sc_law (fun vs H Q E h=>?_) (fun cdv A outer s H vs Q E hr h=>?_)
 ·obtain ⟨a,ns,rfl,_⟩:=h
  rfl
 ·obtain ⟨a,ns,rfl,hS,hlen,k⟩:=h
  have nd:=sc_law.nd
  have big:100000 < sizeLine:=by decide
  refine ⟨_,(pss_cons (ps_set (i:=1) nd rfl (Or.inl rfl) (pe_call GE (hr.mono (by decide)) (by rfl) XE.mg XE.F.kp XE.b .nil pass0 (pa_cons (pv 0) pa_nil)))
  (pss_cons (ps_for PassesOwn.never rfl (pi_range1 (by rfl) h_range (pa_cons pe_int pa_nil)) (pg_name (i:=2) nd rfl (Or.inl rfl))
  (pss_cons (ps_set (i:=3) nd rfl (Or.inl rfl) (pe_call GP (hr.mono (by decide)) (by rfl) XP.mg XP.F.kp XP.b .nil pass0 (pa_cons (pv 1) (pa_cons pe_int pa_nil))))
  (pss_cons (ps_set (i:=4) nd rfl (Or.inl rfl) (pe_call GZ (hr.mono (by decide)) (by rfl) XZ.mg XZ.F.kp XZ.b .nil pass0 (pa_cons (pv 3) pa_nil)))
  (pss_one (ps_for PassesOwn.never rfl (pi_range1 (by rfl) h_range (pa_cons pe_int pa_nil)) (pg_name (i:=5) nd rfl (Or.inl rfl))
  (pss_cons (ps_set (i:=6) nd rfl (Or.inl rfl) (pe_call GQ (hr.mono (by decide)) (by rfl) XQ.mg XQ.F.kp XQ.b .nil pass0 (pa_cons (pv 3) pa_nil)))
  (pss_cons (ps_if (pw_or (pt_not (pt_val (pe_callB call_isinst (by rfl) h_isinstance PyProof.Rows.boot_isinstance (pa_cons (pv 6) (pa_cons (pe_bltn (v:=.ty "str") (by rfl) h_str PyProof.Rows.boot_str rfl) pa_nil))))) (pw_or1 (pt_cmpR op_ne (pv 6) (pv 4) (nomark _)))).pt
  (pss_one (ps_ret pe_bl))
  pss_nil)
  (pss_one (ps_if (pt_not (pt_val (pe_call GS (hr.mono (by decide)) (by rfl) XS.mg XS.F.kp XS.b .nil pass0 (pa_cons (pe_call GW (hr.mono (by decide)) (by rfl) XW.mg XW.F.kp XW.b .nil pass0 (pa_cons (pv 4) pa_nil)) (pa_cons (pv 3) pa_nil)))))
  (pss_one (ps_ret pe_bl))
  pss_nil)))))))))
  (pss_one (ps_ret pe_bl)))),?_⟩
  refine ⟨_,rfl,a,rfl,fun p hp=>?_⟩
  have q0:=same_upd (o:=.dK (penK a 0 0)) hp
  have P0:PenX K (upd H p (.dK (penK a 0 0))) p a ns:=⟨0,0,upd_same,hS.same q0,Int.le_refl _⟩
  generalize upd H p (.dK (penK a 0 0))=H0 at P0
  refine ⟨3,rfl,by decide,by decide,for_range (n:=3) (fun _ σ H'=>∃ (v2 v3 v4 v5 v6:Option V),σ=[some (.ref a),some (.ref p),v2,v3,v4,v5,v6]/\PenX K H' p a ns) ⟨_,_,_,_,_,rfl,P0⟩ ?_ (fun σ H' _=>k H')⟩
  rintro j σ H1 hj ⟨v2,v3,v4,v5,v6,rfl,P1⟩
  refine ⟨_,rfl,p,a,ns,rfl,P1,hlen,fun H2 v tr P2 k2 dv ok dp sz=>?_⟩
  refine ⟨_,rfl,v,tr,rfl,dv,ok,dp,sz,fun H3 s3=>?_⟩
  refine ⟨2,rfl,by decide,by decide,for_range (n:=2) (fun _ σ H'=>∃ (v2 v5 v6:Option V),σ=[some (.ref a),some (.ref p),v2,some v,some (.str (trS tr)),v5,v6]/\Same H2 H') ⟨_,_,_,rfl,s3⟩ ?_ ?_⟩
  ·rintro i σ H5 hi ⟨v2,v5,v6,rfl,s5⟩
   refine ⟨_,rfl,v,tr,rfl,dv.same s5,ok,dp,sz,fun H6 s6=>?_⟩
   refine ⟨_,rfl,_,"str",_,_,rfl,.str _,rfl,_,rfl,?_⟩
   refine iteF ?_
   refine ⟨_,rfl,_,rfl,rfl,_,rfl,?_⟩
   have e2:(!decide (V.str (trS tr)=V.str (trS tr)))=false:=by simp
   rw [e2]
   refine iteF ?_
   have s26:=s5.trans s6
   refine ⟨_,rfl,tr,rfl,ok,dp,sz,fun H7 u s7 du=>⟨_,rfl,_,_,trD tr,rfl,du,dv.same (s26.trans s7),sm_mono (by (first|lia|omega)) (tr_sm ok),fun H8 s8=>⟨_,rfl,?_⟩⟩⟩
   refine iteF ?_
   exact ⟨_,_,_,rfl,s26.trans (s7.trans s8)⟩
  ·rintro σ H5 ⟨v2,v5,v6,rfl,s5⟩
   exact ⟨_,_,_,_,_,rfl,P2.same s5⟩
end
end K76
namespace K76
open PySem L2
theorem all_mk {l:PySem.W.OpenLaw} {w:World} {K:PySem.W.Frag} {h:Heap} {mg:Str->Option Value} {fa f1 f2 f3 f4 f5 f6 f7 f8 f9 f10 f11 f12 f13 f14 f15 f16 f17 f18 f19 f20 f21 f22 f23 f24 f25 f26:Addr} (X:K.In h) (G:h.Ns mainGlobals mg) (hfa:mg "law"=some (.ref fa))
  {od1 an1 od2 an2 od3 an3 od4 an4 od5 an5 od6 an6 od7 an7 od8 an8 od9 an9 od10 an10 od11 an11 od12 an12 od13 an13 od14 an14 od15 an15 od16 an16 od17 an17 od18 an18 od19 an19 od20 an20 od21 an21 od22 an22 od23 an23 od24 an24 od25 an25 od26 an26:Option Addr} {sl1 sl2 sl3 sl4 sl5 sl6 sl7 sl8 sl9 sl10 sl11 sl12 sl13 sl14 sl15 sl16 sl17 sl18 sl19 sl20 sl21 sl22 sl23 sl24 sl25 sl26:Array (Option Value)} {oc1 kV1 dc1 pm1 cd1 ct1 oc2 kV2 dc2 pm2 cd2 ct2 oc3 kV3 dc3 pm3 cd3 ct3 oc4 kV4 dc4 pm4 cd4 ct4 oc5 kV5 dc5 pm5 cd5 ct5 oc6 kV6 dc6 pm6 cd6 ct6 oc7 kV7 dc7 pm7 cd7 ct7 oc8 kV8 dc8 pm8 cd8 ct8 oc9 kV9 dc9 pm9 cd9 ct9 oc10 kV10 dc10 pm10 cd10 ct10 oc11 kV11 dc11 pm11 cd11 ct11 oc12 kV12 dc12 pm12 cd12 ct12 oc13 kV13 dc13 pm13 cd13 ct13 oc14 kV14 dc14 pm14 cd14 ct14 oc15 kV15 dc15 pm15 cd15 ct15 oc16 kV16 dc16 pm16 cd16 ct16 oc17 kV17 dc17 pm17 cd17 ct17 oc18 kV18 dc18 pm18 cd18 ct18 oc19 kV19 dc19 pm19 cd19 ct19 oc20 kV20 dc20 pm20 cd20 ct20 oc21 kV21 dc21 pm21 cd21 ct21 oc22 kV22 dc22 pm22 cd22 ct22 oc23 kV23 dc23 pm23 cd23 ct23 oc24 kV24 dc24 pm24 cd24 ct24 oc25 kV25 dc25 pm25 cd25 ct25 oc26 kV26 dc26 pm26 cd26 ct26:Value}
  (a1:PySem.W.nsIn K mainGlobals "is_name"=some (some (.ref f1))) (l1:K.lookup f1=some ⟨oc1,od1,.func (PySem.W.fnOf "is_name" "is_name" (defArgs s_is_name) (defBody s_is_name) (defScope s_is_name) .none kV1 dc1 pm1 an1 cd1 ct1),sl1⟩) (c1:PySem.W.codeIn K cd1 "is_name"=true) (k1:PySem.W.keepIn K (.ref f1)=true)
  (a2:PySem.W.nsIn K mainGlobals "are_rising"=some (some (.ref f2))) (l2:K.lookup f2=some ⟨oc2,od2,.func (PySem.W.fnOf "are_rising" "are_rising" (defArgs s_are_rising) (defBody s_are_rising) (defScope s_are_rising) .none kV2 dc2 pm2 an2 cd2 ct2),sl2⟩) (c2:PySem.W.codeIn K cd2 "are_rising"=true) (k2:PySem.W.keepIn K (.ref f2)=true)
  (a3:PySem.W.nsIn K mainGlobals "is_written"=some (some (.ref f3))) (l3:K.lookup f3=some ⟨oc3,od3,.func (PySem.W.fnOf "is_written" "is_written" (defArgs s_is_written) (defBody s_is_written) (defScope s_is_written) .none kV3 dc3 pm3 an3 cd3 ct3),sl3⟩) (c3:PySem.W.codeIn K cd3 "is_written"=true) (k3:PySem.W.keepIn K (.ref f3)=true)
  (a4:PySem.W.nsIn K mainGlobals "need"=some (some (.ref f4))) (l4:K.lookup f4=some ⟨oc4,od4,.func (PySem.W.fnOf "need" "need" (defArgs s_need) (defBody s_need) (defScope s_need) .none kV4 dc4 pm4 an4 cd4 ct4),sl4⟩) (c4:PySem.W.codeIn K cd4 "need"=true) (k4:PySem.W.keepIn K (.ref f4)=true)
  (a5:PySem.W.nsIn K mainGlobals "read_prices"=some (some (.ref f5))) (l5:K.lookup f5=some ⟨oc5,od5,.func (PySem.W.fnOf "read_prices" "read_prices" (defArgs s_read_prices) (defBody s_read_prices) (defScope s_read_prices) .none kV5 dc5 pm5 an5 cd5 ct5),sl5⟩) (c5:PySem.W.codeIn K cd5 "read_prices"=true) (k5:PySem.W.keepIn K (.ref f5)=true)
  (a6:PySem.W.nsIn K mainGlobals "read_rows"=some (some (.ref f6))) (l6:K.lookup f6=some ⟨oc6,od6,.func (PySem.W.fnOf "read_rows" "read_rows" (defArgs s_read_rows) (defBody s_read_rows) (defScope s_read_rows) .none kV6 dc6 pm6 an6 cd6 ct6),sl6⟩) (c6:PySem.W.codeIn K cd6 "read_rows"=true) (k6:PySem.W.keepIn K (.ref f6)=true)
  (a7:PySem.W.nsIn K mainGlobals "read_number"=some (some (.ref f7))) (l7:K.lookup f7=some ⟨oc7,od7,.func (PySem.W.fnOf "read_number" "read_number" (defArgs s_read_number) (defBody s_read_number) (defScope s_read_number) .none kV7 dc7 pm7 an7 cd7 ct7),sl7⟩) (c7:PySem.W.codeIn K cd7 "read_number"=true) (k7:PySem.W.keepIn K (.ref f7)=true)
  (a8:PySem.W.nsIn K mainGlobals "read_tree"=some (some (.ref f8))) (l8:K.lookup f8=some ⟨oc8,od8,.func (PySem.W.fnOf "read_tree" "read_tree" (defArgs s_read_tree) (defBody s_read_tree) (defScope s_read_tree) .none kV8 dc8 pm8 an8 cd8 ct8),sl8⟩) (c8:PySem.W.codeIn K cd8 "read_tree"=true) (k8:PySem.W.keepIn K (.ref f8)=true)
  (a9:PySem.W.nsIn K mainGlobals "tree_at"=some (some (.ref f9))) (l9:K.lookup f9=some ⟨oc9,od9,.func (PySem.W.fnOf "tree_at" "tree_at" (defArgs s_tree_at) (defBody s_tree_at) (defScope s_tree_at) .none kV9 dc9 pm9 an9 cd9 ct9),sl9⟩) (c9:PySem.W.codeIn K cd9 "tree_at"=true) (k9:PySem.W.keepIn K (.ref f9)=true)
  (a10:PySem.W.nsIn K mainGlobals "leaf_at"=some (some (.ref f10))) (l10:K.lookup f10=some ⟨oc10,od10,.func (PySem.W.fnOf "leaf_at" "leaf_at" (defArgs s_leaf_at) (defBody s_leaf_at) (defScope s_leaf_at) .none kV10 dc10 pm10 an10 cd10 ct10),sl10⟩) (c10:PySem.W.codeIn K cd10 "leaf_at"=true) (k10:PySem.W.keepIn K (.ref f10)=true)
  (a11:PySem.W.nsIn K mainGlobals "part_at"=some (some (.ref f11))) (l11:K.lookup f11=some ⟨oc11,od11,.func (PySem.W.fnOf "part_at" "part_at" (defArgs s_part_at) (defBody s_part_at) (defScope s_part_at) .none kV11 dc11 pm11 an11 cd11 ct11),sl11⟩) (c11:PySem.W.codeIn K cd11 "part_at"=true) (k11:PySem.W.keepIn K (.ref f11)=true)
  (a12:PySem.W.nsIn K mainGlobals "behind"=some (some (.ref f12))) (l12:K.lookup f12=some ⟨oc12,od12,.func (PySem.W.fnOf "behind" "behind" (defArgs s_behind) (defBody s_behind) (defScope s_behind) .none kV12 dc12 pm12 an12 cd12 ct12),sl12⟩) (c12:PySem.W.codeIn K cd12 "behind"=true) (k12:PySem.W.keepIn K (.ref f12)=true)
  (a13:PySem.W.nsIn K mainGlobals "prices_text"=some (some (.ref f13))) (l13:K.lookup f13=some ⟨oc13,od13,.func (PySem.W.fnOf "prices_text" "prices_text" (defArgs s_prices_text) (defBody s_prices_text) (defScope s_prices_text) .none kV13 dc13 pm13 an13 cd13 ct13),sl13⟩) (c13:PySem.W.codeIn K cd13 "prices_text"=true) (k13:PySem.W.keepIn K (.ref f13)=true)
  (a14:PySem.W.nsIn K mainGlobals "tree_text"=some (some (.ref f14))) (l14:K.lookup f14=some ⟨oc14,od14,.func (PySem.W.fnOf "tree_text" "tree_text" (defArgs s_tree_text) (defBody s_tree_text) (defScope s_tree_text) .none kV14 dc14 pm14 an14 cd14 ct14),sl14⟩) (c14:PySem.W.codeIn K cd14 "tree_text"=true) (k14:PySem.W.keepIn K (.ref f14)=true)
  (a15:PySem.W.nsIn K mainGlobals "_law_pen"=some (some (.ref f15))) (l15:K.lookup f15=some ⟨oc15,od15,.func (PySem.W.fnOf "_law_pen" "_law_pen" (defArgs s_law_pen) (defBody s_law_pen) (defScope s_law_pen) .none kV15 dc15 pm15 an15 cd15 ct15),sl15⟩) (c15:PySem.W.codeIn K cd15 "_law_pen"=true) (k15:PySem.W.keepIn K (.ref f15)=true)
  (a16:PySem.W.nsIn K mainGlobals "_law_take"=some (some (.ref f16))) (l16:K.lookup f16=some ⟨oc16,od16,.func (PySem.W.fnOf "_law_take" "_law_take" (defArgs s_law_take) (defBody s_law_take) (defScope s_law_take) .none kV16 dc16 pm16 an16 cd16 ct16),sl16⟩) (c16:PySem.W.codeIn K cd16 "_law_take"=true) (k16:PySem.W.keepIn K (.ref f16)=true)
  (a17:PySem.W.nsIn K mainGlobals "_law_names"=some (some (.ref f17))) (l17:K.lookup f17=some ⟨oc17,od17,.func (PySem.W.fnOf "_law_names" "_law_names" (defArgs s_law_names) (defBody s_law_names) (defScope s_law_names) .none kV17 dc17 pm17 an17 cd17 ct17),sl17⟩) (c17:PySem.W.codeIn K cd17 "_law_names"=true) (k17:PySem.W.keepIn K (.ref f17)=true)
  (a18:PySem.W.nsIn K mainGlobals "_law_amount"=some (some (.ref f18))) (l18:K.lookup f18=some ⟨oc18,od18,.func (PySem.W.fnOf "_law_amount" "_law_amount" (defArgs s_law_amount) (defBody s_law_amount) (defScope s_law_amount) .none kV18 dc18 pm18 an18 cd18 ct18),sl18⟩) (c18:PySem.W.codeIn K cd18 "_law_amount"=true) (k18:PySem.W.keepIn K (.ref f18)=true)
  (a19:PySem.W.nsIn K mainGlobals "_law_same"=some (some (.ref f19))) (l19:K.lookup f19=some ⟨oc19,od19,.func (PySem.W.fnOf "_law_same" "_law_same" (defArgs s_law_same) (defBody s_law_same) (defScope s_law_same) .none kV19 dc19 pm19 an19 cd19 ct19),sl19⟩) (c19:PySem.W.codeIn K cd19 "_law_same"=true) (k19:PySem.W.keepIn K (.ref f19)=true)
  (a20:PySem.W.nsIn K mainGlobals "_law_rising"=some (some (.ref f20))) (l20:K.lookup f20=some ⟨oc20,od20,.func (PySem.W.fnOf "_law_rising" "_law_rising" (defArgs s_law_rising) (defBody s_law_rising) (defScope s_law_rising) .none kV20 dc20 pm20 an20 cd20 ct20),sl20⟩) (c20:PySem.W.codeIn K cd20 "_law_rising"=true) (k20:PySem.W.keepIn K (.ref f20)=true)
  (a21:PySem.W.nsIn K mainGlobals "_law_prices"=some (some (.ref f21))) (l21:K.lookup f21=some ⟨oc21,od21,.func (PySem.W.fnOf "_law_prices" "_law_prices" (defArgs s_law_prices) (defBody s_law_prices) (defScope s_law_prices) .none kV21 dc21 pm21 an21 cd21 ct21),sl21⟩) (c21:PySem.W.codeIn K cd21 "_law_prices"=true) (k21:PySem.W.keepIn K (.ref f21)=true)
  (a22:PySem.W.nsIn K mainGlobals "_law_prices_text"=some (some (.ref f22))) (l22:K.lookup f22=some ⟨oc22,od22,.func (PySem.W.fnOf "_law_prices_text" "_law_prices_text" (defArgs s_law_prices_text) (defBody s_law_prices_text) (defScope s_law_prices_text) .none kV22 dc22 pm22 an22 cd22 ct22),sl22⟩) (c22:PySem.W.codeIn K cd22 "_law_prices_text"=true) (k22:PySem.W.keepIn K (.ref f22)=true)
  (a23:PySem.W.nsIn K mainGlobals "_law_leaf"=some (some (.ref f23))) (l23:K.lookup f23=some ⟨oc23,od23,.func (PySem.W.fnOf "_law_leaf" "_law_leaf" (defArgs s_law_leaf) (defBody s_law_leaf) (defScope s_law_leaf) .none kV23 dc23 pm23 an23 cd23 ct23),sl23⟩) (c23:PySem.W.codeIn K cd23 "_law_leaf"=true) (k23:PySem.W.keepIn K (.ref f23)=true)
  (a24:PySem.W.nsIn K mainGlobals "_law_tree"=some (some (.ref f24))) (l24:K.lookup f24=some ⟨oc24,od24,.func (PySem.W.fnOf "_law_tree" "_law_tree" (defArgs s_law_tree) (defBody s_law_tree) (defScope s_law_tree) .none kV24 dc24 pm24 an24 cd24 ct24),sl24⟩) (c24:PySem.W.codeIn K cd24 "_law_tree"=true) (k24:PySem.W.keepIn K (.ref f24)=true)
  (a25:PySem.W.nsIn K mainGlobals "_law_tree_text"=some (some (.ref f25))) (l25:K.lookup f25=some ⟨oc25,od25,.func (PySem.W.fnOf "_law_tree_text" "_law_tree_text" (defArgs s_law_tree_text) (defBody s_law_tree_text) (defScope s_law_tree_text) .none kV25 dc25 pm25 an25 cd25 ct25),sl25⟩) (c25:PySem.W.codeIn K cd25 "_law_tree_text"=true) (k25:PySem.W.keepIn K (.ref f25)=true)
  (a26:PySem.W.nsIn K mainGlobals "law"=some (some (.ref f26))) (l26:K.lookup f26=some ⟨oc26,od26,.func (PySem.W.fnOf "law" "law" (defArgs s_law) (defBody s_law) (defScope s_law) .none kV26 dc26 pm26 an26 cd26 ct26),sl26⟩) (c26:PySem.W.codeIn K cd26 "law"=true) (k26:PySem.W.keepIn K (.ref f26)=true)
  (z1:PySem.W.nsIn K mainGlobals "isinstance"=some none) (z2:PySem.W.nsIn K mainGlobals "range"=some none) (z3:PySem.W.nsIn K mainGlobals "str"=some none) (z4:PySem.W.nsIn K mainGlobals "len"=some none) (z5:PySem.W.nsIn K mainGlobals "abs"=some none) (z6:PySem.W.nsIn K mainGlobals "sorted"=some none) (z7:PySem.W.nsIn K mainGlobals "tuple"=some none) (z8:PySem.W.nsIn K mainGlobals "bool"=some none) (z9:PySem.W.nsIn K mainGlobals "int"=some none) (z10:PySem.W.nsIn K mainGlobals "all"=some none) (z11:PySem.W.nsIn K mainGlobals "list"=some none) (z12:PySem.W.nsIn K mainGlobals "set"=some none) {tc1:Tok} (y1:PySem.W.nsIn K mainGlobals "DEEPEST"=some (some (.int 30 tc1))) {tc2:Tok} (y2:PySem.W.nsIn K mainGlobals "MOST_LETTERS"=some (some (.int 6 tc2))) :
  ∃ fd:FuncData,(∀ (s:Shared) (v:Value),BindsTo s fd ⟨[v],[]⟩ [("_law_script",v)])/\∀ base:Heap,K.In base->base.Ns mainGlobals mg->FnOk l.prog w K mg base CX0 37 fa fd ["_law_script"] (spLaw K):=by
 have e:=hfa.symm.trans (PySem.W.mg_of X G a26)
 cases e
 have F1:=fun_mk (st:=s_is_name) l1 c1 k1
 have F2:=fun_mk (st:=s_are_rising) l2 c2 k2
 have F3:=fun_mk (st:=s_is_written) l3 c3 k3
 have F4:=fun_mk (st:=s_need) l4 c4 k4
 have F5:=fun_mk (st:=s_read_prices) l5 c5 k5
 have F6:=fun_mk (st:=s_read_rows) l6 c6 k6
 have F7:=fun_mk (st:=s_read_number) l7 c7 k7
 have F8:=fun_mk (st:=s_read_tree) l8 c8 k8
 have F9:=fun_mk (st:=s_tree_at) l9 c9 k9
 have F10:=fun_mk (st:=s_leaf_at) l10 c10 k10
 have F11:=fun_mk (st:=s_part_at) l11 c11 k11
 have F12:=fun_mk (st:=s_behind) l12 c12 k12
 have F13:=fun_mk (st:=s_prices_text) l13 c13 k13
 have F14:=fun_mk (st:=s_tree_text) l14 c14 k14
 have F15:=fun_mk (st:=s_law_pen) l15 c15 k15
 have F16:=fun_mk (st:=s_law_take) l16 c16 k16
 have F17:=fun_mk (st:=s_law_names) l17 c17 k17
 have F18:=fun_mk (st:=s_law_amount) l18 c18 k18
 have F19:=fun_mk (st:=s_law_same) l19 c19 k19
 have F20:=fun_mk (st:=s_law_rising) l20 c20 k20
 have F21:=fun_mk (st:=s_law_prices) l21 c21 k21
 have F22:=fun_mk (st:=s_law_prices_text) l22 c22 k22
 have F23:=fun_mk (st:=s_law_leaf) l23 c23 k23
 have F24:=fun_mk (st:=s_law_tree) l24 c24 k24
 have F25:=fun_mk (st:=s_law_tree_text) l25 c25 k25
 have F26:=fun_mk (st:=s_law) l26 c26 k26
 have b1:=F1.binds (ps:=["thing"]) fun _ _ _ _ _ _ us hl=>by obtain ⟨x,rfl⟩:=len1 hl; rfl
 have b2:=F2.binds (ps:=["things"]) fun _ _ _ _ _ _ us hl=>by obtain ⟨x,rfl⟩:=len1 hl; rfl
 have b3:=F3.binds (ps:=["word"]) fun _ _ _ _ _ _ us hl=>by obtain ⟨x,rfl⟩:=len1 hl; rfl
 have b4:=F4.binds (ps:=["right"]) fun _ _ _ _ _ _ us hl=>by obtain ⟨x,rfl⟩:=len1 hl; rfl
 have b5:=F5.binds (ps:=["text"]) fun _ _ _ _ _ _ us hl=>by obtain ⟨x,rfl⟩:=len1 hl; rfl
 have b6:=F6.binds (ps:=["text","mark"]) fun _ _ _ _ _ _ us hl=>by obtain ⟨x,y,rfl⟩:=len2 hl; rfl
 have b7:=F7.binds (ps:=["word"]) fun _ _ _ _ _ _ us hl=>by obtain ⟨x,rfl⟩:=len1 hl; rfl
 have b8:=F8.binds (ps:=["text"]) fun _ _ _ _ _ _ us hl=>by obtain ⟨x,rfl⟩:=len1 hl; rfl
 have b9:=F9.binds (ps:=["text","at","depth"]) fun _ _ _ _ _ _ us hl=>by obtain ⟨x,y,z,rfl⟩:=len3 hl; rfl
 have b10:=F10.binds (ps:=["text","at"]) fun _ _ _ _ _ _ us hl=>by obtain ⟨x,y,rfl⟩:=len2 hl; rfl
 have b11:=F11.binds (ps:=["text","at","mark"]) fun _ _ _ _ _ _ us hl=>by obtain ⟨x,y,z,rfl⟩:=len3 hl; rfl
 have b12:=F12.binds (ps:=["text","at","mark"]) fun _ _ _ _ _ _ us hl=>by obtain ⟨x,y,z,rfl⟩:=len3 hl; rfl
 have b13:=F13.binds (ps:=["prices"]) fun _ _ _ _ _ _ us hl=>by obtain ⟨x,rfl⟩:=len1 hl; rfl
 have b14:=F14.binds (ps:=["tree"]) fun _ _ _ _ _ _ us hl=>by obtain ⟨x,rfl⟩:=len1 hl; rfl
 have b15:=F15.binds (ps:=["_law_script"]) fun _ _ _ _ _ _ us hl=>by obtain ⟨x,rfl⟩:=len1 hl; rfl
 have b16:=F16.binds (ps:=["_law_pen_here","_law_many"]) fun _ _ _ _ _ _ us hl=>by obtain ⟨x,y,rfl⟩:=len2 hl; rfl
 have b17:=F17.binds (ps:=["_law_pen_here","_law_many"]) fun _ _ _ _ _ _ us hl=>by obtain ⟨x,y,rfl⟩:=len2 hl; rfl
 have b18:=F18.binds (ps:=["_law_pen_here","_law_least"]) fun _ _ _ _ _ _ us hl=>by obtain ⟨x,y,rfl⟩:=len2 hl; rfl
 have b19:=F19.binds (ps:=["_law_told","_law_due"]) fun _ _ _ _ _ _ us hl=>by obtain ⟨x,y,rfl⟩:=len2 hl; rfl
 have b20:=F20.binds (ps:=["_law_pen_here","_law_most"]) fun _ _ _ _ _ _ us hl=>by obtain ⟨x,y,rfl⟩:=len2 hl; rfl
 have b21:=F21.binds (ps:=["_law_pen_here","_law_places"]) fun _ _ _ _ _ _ us hl=>by obtain ⟨x,y,rfl⟩:=len2 hl; rfl
 have b22:=F22.binds (ps:=["_law_prices_here"]) fun _ _ _ _ _ _ us hl=>by obtain ⟨x,rfl⟩:=len1 hl; rfl
 have b23:=F23.binds (ps:=["_law_pen_here"]) fun _ _ _ _ _ _ us hl=>by obtain ⟨x,rfl⟩:=len1 hl; rfl
 have b24:=F24.binds (ps:=["_law_pen_here","_law_deep"]) fun _ _ _ _ _ _ us hl=>by obtain ⟨x,y,rfl⟩:=len2 hl; rfl
 have b25:=F25.binds (ps:=["_law_tree_here"]) fun _ _ _ _ _ _ us hl=>by obtain ⟨x,rfl⟩:=len1 hl; rfl
 exact ⟨PySem.W.fnOf "law" "law" (defArgs s_law) (defBody s_law) (defScope s_law) .none kV26 dc26 pm26 an26 cd26 ct26,fun s v=>.of_eq rfl,fun base _ _=>
  ok_law (PySem.W.mg_none_of X G z1) (PySem.W.mg_none_of X G z2) (PySem.W.mg_none_of X G z3) ⟨F15,(PySem.W.mg_of X G a15),b15⟩ (ok_pen F15) ⟨F24,(PySem.W.mg_of X G a24),b24⟩ (ok_law_tree (PySem.W.mg_none_of X G z2) ⟨⟨(PySem.W.mg_none_of X G z4),(PySem.W.mg_none_of X G z5)⟩,F16,(PySem.W.mg_of X G a16),b16⟩ (ok_take ⟨(PySem.W.mg_none_of X G z4),(PySem.W.mg_none_of X G z5)⟩ F16) ⟨F17,(PySem.W.mg_of X G a17),b17⟩ (ok_names ⟨⟨(PySem.W.mg_none_of X G z4),(PySem.W.mg_none_of X G z5)⟩,F16,(PySem.W.mg_of X G a16),b16⟩ (PySem.W.mg_none_of X G z2) F17) ⟨F23,(PySem.W.mg_of X G a23),b23⟩ (ok_law_leaf ⟨F18,(PySem.W.mg_of X G a18),b18⟩ (ok_law_amount ⟨⟨(PySem.W.mg_none_of X G z4),(PySem.W.mg_none_of X G z5)⟩,F16,(PySem.W.mg_of X G a16),b16⟩ (ok_take ⟨(PySem.W.mg_none_of X G z4),(PySem.W.mg_none_of X G z5)⟩ F16) F18) ⟨F20,(PySem.W.mg_of X G a20),b20⟩ (ok_law_rising (PySem.W.mg_none_of X G z6) ⟨⟨(PySem.W.mg_none_of X G z4),(PySem.W.mg_none_of X G z5)⟩,F16,(PySem.W.mg_of X G a16),b16⟩ (ok_take ⟨(PySem.W.mg_none_of X G z4),(PySem.W.mg_none_of X G z5)⟩ F16) ⟨F17,(PySem.W.mg_of X G a17),b17⟩ (ok_names ⟨⟨(PySem.W.mg_none_of X G z4),(PySem.W.mg_none_of X G z5)⟩,F16,(PySem.W.mg_of X G a16),b16⟩ (PySem.W.mg_none_of X G z2) F17) F20) ⟨F21,(PySem.W.mg_of X G a21),b21⟩ (ok_law_prices (PySem.W.mg_none_of X G z7) ⟨F18,(PySem.W.mg_of X G a18),b18⟩ (ok_law_amount ⟨⟨(PySem.W.mg_none_of X G z4),(PySem.W.mg_none_of X G z5)⟩,F16,(PySem.W.mg_of X G a16),b16⟩ (ok_take ⟨(PySem.W.mg_none_of X G z4),(PySem.W.mg_none_of X G z5)⟩ F16) F18) F21) F23) F24) ⟨F19,(PySem.W.mg_of X G a19),b19⟩ (ok_law_same (PySem.W.mg_none_of X G z8) (PySem.W.mg_none_of X G z9) (PySem.W.mg_none_of X G z1) (PySem.W.mg_none_of X G z4) (PySem.W.mg_none_of X G z2) (PySem.W.mg_none_of X G z3) (PySem.W.mg_none_of X G z7) ⟨F19,(PySem.W.mg_of X G a19),b19⟩ F19) ⟨F14,(PySem.W.mg_of X G a14),b14⟩ (ok_tree_text ⟨F13,(PySem.W.mg_of X G a13),b13⟩ (ok_prices_text F13) ⟨F14,(PySem.W.mg_of X G a14),b14⟩ F14) ⟨F8,(PySem.W.mg_of X G a8),b8⟩ (ok_read_tree (PySem.W.mg_none_of X G z1) (PySem.W.mg_none_of X G z4) (PySem.W.mg_none_of X G z3) ⟨F4,(PySem.W.mg_of X G a4),b4⟩ (ok_need F4) ⟨F9,(PySem.W.mg_of X G a9),b9⟩ (ok_tree_at ⟨_,PySem.W.mg_of X G y1⟩ (PySem.W.mg_none_of X G z4) ⟨F4,(PySem.W.mg_of X G a4),b4⟩ (ok_need F4) ⟨F10,(PySem.W.mg_of X G a10),b10⟩ (ok_leaf_at ⟨F11,(PySem.W.mg_of X G a11),b11⟩ (ok_part_at (PySem.W.mg_none_of X G z4) ⟨F4,(PySem.W.mg_of X G a4),b4⟩ (ok_need F4) F11) ⟨F5,(PySem.W.mg_of X G a5),b5⟩ (ok_read_prices (PySem.W.mg_none_of X G z7) ⟨F6,(PySem.W.mg_of X G a6),b6⟩ (ok_read_rows (PySem.W.mg_none_of X G z10) (PySem.W.mg_none_of X G z4) (PySem.W.mg_none_of X G z7) ⟨F4,(PySem.W.mg_of X G a4),b4⟩ (ok_need F4) ⟨F2,(PySem.W.mg_of X G a2),b2⟩ (ok_are_rising (PySem.W.mg_none_of X G z10) (PySem.W.mg_none_of X G z11) (PySem.W.mg_none_of X G z6) (PySem.W.mg_none_of X G z12) ⟨F1,(PySem.W.mg_of X G a1),b1⟩ (ok_name ⟨(PySem.W.mg_none_of X G z4),(PySem.W.mg_none_of X G z1),(PySem.W.mg_none_of X G z3),(PySem.W.mg_none_of X G z10),⟨_,PySem.W.mg_of X G y2⟩⟩ F1) F2) F6) ⟨F7,(PySem.W.mg_of X G a7),b7⟩ (ok_read_number (PySem.W.mg_none_of X G z9) ⟨F4,(PySem.W.mg_of X G a4),b4⟩ (ok_need F4) ⟨F3,(PySem.W.mg_of X G a3),b3⟩ (ok_is_written (PySem.W.mg_none_of X G z10) F3) F7) F5) ⟨F7,(PySem.W.mg_of X G a7),b7⟩ (ok_read_number (PySem.W.mg_none_of X G z9) ⟨F4,(PySem.W.mg_of X G a4),b4⟩ (ok_need F4) ⟨F3,(PySem.W.mg_of X G a3),b3⟩ (ok_is_written (PySem.W.mg_none_of X G z10) F3) F7) F10) ⟨F11,(PySem.W.mg_of X G a11),b11⟩ (ok_part_at (PySem.W.mg_none_of X G z4) ⟨F4,(PySem.W.mg_of X G a4),b4⟩ (ok_need F4) F11) ⟨F12,(PySem.W.mg_of X G a12),b12⟩ (ok_behind (PySem.W.mg_none_of X G z4) ⟨F4,(PySem.W.mg_of X G a4),b4⟩ (ok_need F4) F12) ⟨F1,(PySem.W.mg_of X G a1),b1⟩ (ok_name ⟨(PySem.W.mg_none_of X G z4),(PySem.W.mg_none_of X G z1),(PySem.W.mg_none_of X G z3),(PySem.W.mg_none_of X G z10),⟨_,PySem.W.mg_of X G y2⟩⟩ F1) ⟨F9,(PySem.W.mg_of X G a9),b9⟩ F9) F8) ⟨F25,(PySem.W.mg_of X G a25),b25⟩ (ok_law_tree_text (PySem.W.mg_none_of X G z3) ⟨F22,(PySem.W.mg_of X G a22),b22⟩ (ok_law_prices_text (PySem.W.mg_none_of X G z3) F22) ⟨F25,(PySem.W.mg_of X G a25),b25⟩ F25) F26⟩
theorem scr_of {K:PySem.W.Frag} {H:Hp} {a:Addr} {xs:List V} (o:Only H) (h:SqL K H a xs):Scr K H a xs:=by
 rcases h with (h | ⟨ob,h⟩) | h
 ·rcases o a with z | ⟨ob,ys,z⟩ <;> (rw [h] at z; cases z)
 ·exact .inl ⟨ob,h⟩
 ·exact .inr h
theorem walk {l:PySem.W.OpenLaw} {q:Program} {loose:List Str} {XP:(Str->Option Value)->Heap->Prop} {YP:World->Heap->Prop} {d:DefRec} {K:Params->PySem.W.Frag} (hn:l.most=some 63) (hdf:d.params.defaults=[])
  (hY:∀ (w:World) (h:Heap),YP w h->(K w.params).In h)
  (F:∀ (w:World) (mg:Str->Option Value) (fa:Addr) (h:Heap),(K w.params).In h->h.Ns mainGlobals mg->mg d.name=some (.ref fa) ->
   ∃ fd:FuncData,(∀ (s:Shared) (u:Value),BindsTo s fd ⟨[u],[]⟩ [("_law_script",u)])/\∀ base:Heap,(K w.params).In base->base.Ns mainGlobals mg->FnOk l.prog w (K w.params) mg base CX0 37 fa fd ["_law_script"] (spLaw (K w.params))) :
  PySem.W.WalkO q loose XP YP l.row.toRowW d [] (fun f vs=>PySem.call f vs):=
 L2.walk_of (n:=63) (k:=37) (x:="_law_script") (CX:=fun _=>CX0) (sp:=fun w=>spLaw (K w.params)) hn (by decide) hdf ⟨rfl,by decide,by decide,rfl⟩ hY F (fun _ _ a ns hl ho hS=>⟨a,ns,rfl,scr_of ho hS,hl,fun _=>rfl⟩) fun _ _ _ _ _ z=>z
end K76
open PySem PySem.W PyProof.Rows
set_option maxRecDepth 100000 in
set_option maxHeartbeats 0 in
theorem PySem.Challenge.cw_openhouses_k76_trees_as_texts_holds : PySem.Challenge.rw_openhouses_k76_trees_as_texts.Holds := by
 w_on; o_law; k_head; (case hw=>w_witness2)
 k_fill
 refine K76.walk (l:=PySem.Challenge.rw_openhouses_k76_trees_as_texts) rfl rfl (fun w h Y=>PySem.W.kIn_of Y) ?F
 case F=>
  intro w mg fa h KX G hmg
  refine' K76.all_mk KX G hmg ?a1 ?l1 ?c1 ?k1 ?a2 ?l2 ?c2 ?k2 ?a3 ?l3 ?c3 ?k3 ?a4 ?l4 ?c4 ?k4 ?a5 ?l5 ?c5 ?k5 ?a6 ?l6 ?c6 ?k6 ?a7 ?l7 ?c7 ?k7 ?a8 ?l8 ?c8 ?k8 ?a9 ?l9 ?c9 ?k9 ?a10 ?l10 ?c10 ?k10 ?a11 ?l11 ?c11 ?k11 ?a12 ?l12 ?c12 ?k12 ?a13 ?l13 ?c13 ?k13 ?a14 ?l14 ?c14 ?k14 ?a15 ?l15 ?c15 ?k15 ?a16 ?l16 ?c16 ?k16 ?a17 ?l17 ?c17 ?k17 ?a18 ?l18 ?c18 ?k18 ?a19 ?l19 ?c19 ?k19 ?a20 ?l20 ?c20 ?k20 ?a21 ?l21 ?c21 ?k21 ?a22 ?l22 ?c22 ?k22 ?a23 ?l23 ?c23 ?k23 ?a24 ?l24 ?c24 ?k24 ?a25 ?l25 ?c25 ?k25 ?a26 ?l26 ?c26 ?k26 ?z1 ?z2 ?z3 ?z4 ?z5 ?z6 ?z7 ?z8 ?z9 ?z10 ?z11 ?z12 ?y1 ?y2
  (case a1=>k_is); (case l1=>k_is); (case c1=>k_is); (case k1=>k_is)
  (case a2=>k_is); (case l2=>k_is); (case c2=>k_is); (case k2=>k_is)
  (case a3=>k_is); (case l3=>k_is); (case c3=>k_is); (case k3=>k_is)
  (case a4=>k_is); (case l4=>k_is); (case c4=>k_is); (case k4=>k_is)
  (case a5=>k_is); (case l5=>k_is); (case c5=>k_is); (case k5=>k_is)
  (case a6=>k_is); (case l6=>k_is); (case c6=>k_is); (case k6=>k_is)
  (case a7=>k_is); (case l7=>k_is); (case c7=>k_is); (case k7=>k_is)
  (case a8=>k_is); (case l8=>k_is); (case c8=>k_is); (case k8=>k_is)
  (case a9=>k_is); (case l9=>k_is); (case c9=>k_is); (case k9=>k_is)
  (case a10=>k_is); (case l10=>k_is); (case c10=>k_is); (case k10=>k_is)
  (case a11=>k_is); (case l11=>k_is); (case c11=>k_is); (case k11=>k_is)
  (case a12=>k_is); (case l12=>k_is); (case c12=>k_is); (case k12=>k_is)
  (case a13=>k_is); (case l13=>k_is); (case c13=>k_is); (case k13=>k_is)
  (case a14=>k_is); (case l14=>k_is); (case c14=>k_is); (case k14=>k_is)
  (case a15=>k_is); (case l15=>k_is); (case c15=>k_is); (case k15=>k_is)
  (case a16=>k_is); (case l16=>k_is); (case c16=>k_is); (case k16=>k_is)
  (case a17=>k_is); (case l17=>k_is); (case c17=>k_is); (case k17=>k_is)
  (case a18=>k_is); (case l18=>k_is); (case c18=>k_is); (case k18=>k_is)
  (case a19=>k_is); (case l19=>k_is); (case c19=>k_is); (case k19=>k_is)
  (case a20=>k_is); (case l20=>k_is); (case c20=>k_is); (case k20=>k_is)
  (case a21=>k_is); (case l21=>k_is); (case c21=>k_is); (case k21=>k_is)
  (case a22=>k_is); (case l22=>k_is); (case c22=>k_is); (case k22=>k_is)
  (case a23=>k_is); (case l23=>k_is); (case c23=>k_is); (case k23=>k_is)
  (case a24=>k_is); (case l24=>k_is); (case c24=>k_is); (case k24=>k_is)
  (case a25=>k_is); (case l25=>k_is); (case c25=>k_is); (case k25=>k_is)
  (case a26=>k_is); (case l26=>k_is); (case c26=>k_is); (case k26=>k_is)
  (case z1=>k_is); (case z2=>k_is); (case z3=>k_is); (case z4=>k_is); (case z5=>k_is); (case z6=>k_is); (case z7=>k_is); (case z8=>k_is); (case z9=>k_is); (case z10=>k_is); (case z11=>k_is); (case z12=>k_is); (case y1=>k_is); (case y2=>k_is)
