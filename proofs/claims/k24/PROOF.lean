import PyProof.Rows.All
import Wide.All
import OpenK.AllK
import Wide.FinOn
import Lean
import PyProof.EqAt
import PyProof.EqKinds
import PyProof.TupleCall
import KE.KMinKey
import KE.KSortAsk
import KE.KSortTup
import KE.KRevIter
import KE.KIntText
import PySem.Challenge.RW_nearposts_k24_rings_refused
set_option linter.all false
noncomputable section
namespace L2
theorem kv {P0 P1 G:Prop}(h:P0∧P1)(f:P0->P1->G):G:=by
 obtain⟨a0,a1⟩:=h
 exact f a0 a1
theorem Fh {P0 P1 P2 P3 G:Prop}(h:P0∧P1∧P2∧P3)(f:P0->P1->P2->P3->G):G:=by
 obtain⟨a0,a1,a2,a3⟩:=h
 exact f a0 a1 a2 a3
theorem Fi {T0 T1:Sort _}{P0:Prop}{P1 P2:T0->T1->Prop}{G:Prop}(h:P0∧∃ x0,∃ x1,P1 x0 x1∧P2 x0 x1)(f:P0->∀ x0,∀ x1,P1 x0 x1->P2 x0 x1->G):G:=by
 obtain⟨a0,a1,a2,a3,a4⟩:=h
 exact f a0 a1 a2 a3 a4
theorem c5 {T0:Sort _}{P0:T0->Prop}{G:Prop}(h:∃ x0,P0 x0)(f:∀ x0,P0 x0->G):G:=by
 obtain⟨a0,a1⟩:=h
 exact f a0 a1
theorem iZ {T0:Sort _}{P0 P1:T0->Prop}{G:Prop}(h:∃ x0,P0 x0∧P1 x0)(f:∀ x0,P0 x0->P1 x0->G):G:=by
 obtain⟨a0,a1,a2⟩:=h
 exact f a0 a1 a2
theorem Fj {T0:Sort _}{P0 P1 P2:T0->Prop}{G:Prop}(h:∃ x0,P0 x0∧P1 x0∧P2 x0)(f:∀ x0,P0 x0->P1 x0->P2 x0->G):G:=by
 obtain⟨a0,a1,a2,a3⟩:=h
 exact f a0 a1 a2 a3
theorem Fl {T0:Sort _}{P0 P1 P2 P3:T0->Prop}{G:Prop}(h:∃ x0,P0 x0∧P1 x0∧P2 x0∧P3 x0)(f:∀ x0,P0 x0->P1 x0->P2 x0->P3 x0->G):G:=by
 obtain⟨a0,a1,a2,a3,a4⟩:=h
 exact f a0 a1 a2 a3 a4
theorem rZ {T0 T1:Sort _}{P0 P1:T0->T1->Prop}{G:Prop}(h:∃ x0,∃ x1,P0 x0 x1∧P1 x0 x1)(f:∀ x0,∀ x1,P0 x0 x1->P1 x0 x1->G):G:=by
 obtain⟨a0,a1,a2,a3⟩:=h
 exact f a0 a1 a2 a3
theorem kA {T0 T1:Sort _}{P0 P1 P2:T0->T1->Prop}{G:Prop}(h:∃ x0,∃ x1,P0 x0 x1∧P1 x0 x1∧P2 x0 x1)(f:∀ x0,∀ x1,P0 x0 x1->P1 x0 x1->P2 x0 x1->G):G:=by
 obtain⟨a0,a1,a2,a3,a4⟩:=h
 exact f a0 a1 a2 a3 a4
theorem jB {T0 T1:Sort _}{P0 P1 P2 P3:T0->T1->Prop}{G:Prop}(h:∃ x0,∃ x1,P0 x0 x1∧P1 x0 x1∧P2 x0 x1∧P3 x0 x1)(f:∀ x0,∀ x1,P0 x0 x1->P1 x0 x1->P2 x0 x1->P3 x0 x1->G):G:=by
 obtain⟨a0,a1,a2,a3,a4,a5⟩:=h
 exact f a0 a1 a2 a3 a4 a5
theorem Fm {T0 T1:Sort _}{P0 P1 P2 P3 P4:T0->T1->Prop}{G:Prop}(h:∃ x0,∃ x1,P0 x0 x1∧P1 x0 x1∧P2 x0 x1∧P3 x0 x1∧P4 x0 x1)(f:∀ x0,∀ x1,P0 x0 x1->P1 x0 x1->P2 x0 x1->P3 x0 x1->P4 x0 x1->G):G:=by
 obtain⟨a0,a1,a2,a3,a4,a5,a6⟩:=h
 exact f a0 a1 a2 a3 a4 a5 a6
theorem yo {T0 T1 T2:Sort _}{P0 P1 P2 P3:T0->T1->T2->Prop}{G:Prop}(h:∃ x0,∃ x1,∃ x2,P0 x0 x1 x2∧P1 x0 x1 x2∧P2 x0 x1 x2∧P3 x0 x1 x2)(f:∀ x0,∀ x1,∀ x2,P0 x0 x1 x2->P1 x0 x1 x2->P2 x0 x1 x2->P3 x0 x1 x2->G):G:=by
 obtain⟨a0,a1,a2,a3,a4,a5,a6⟩:=h
 exact f a0 a1 a2 a3 a4 a5 a6
theorem yp {T0 T1 T2:Sort _}{P0 P1 P2 P3 P4:T0->T1->T2->Prop}{G:Prop}(h:∃ x0,∃ x1,∃ x2,P0 x0 x1 x2∧P1 x0 x1 x2∧P2 x0 x1 x2∧P3 x0 x1 x2∧P4 x0 x1 x2)(f:∀ x0,∀ x1,∀ x2,P0 x0 x1 x2->P1 x0 x1 x2->P2 x0 x1 x2->P3 x0 x1 x2->P4 x0 x1 x2->G):G:=by
 obtain⟨a0,a1,a2,a3,a4,a5,a6,a7⟩:=h
 exact f a0 a1 a2 a3 a4 a5 a6 a7
theorem Fo {T0 T1 T2 T3:Sort _}{P0 P1:T0->T1->T2->T3->Prop}{G:Prop}(h:∃ x0,∃ x1,∃ x2,∃ x3,P0 x0 x1 x2 x3∧P1 x0 x1 x2 x3)(f:∀ x0,∀ x1,∀ x2,∀ x3,P0 x0 x1 x2 x3->P1 x0 x1 x2 x3->G):G:=by
 obtain⟨a0,a1,a2,a3,a4,a5⟩:=h
 exact f a0 a1 a2 a3 a4 a5
theorem yq {T0 T1 T2 T3:Sort _}{P0 P1 P2 P3 P4:T0->T1->T2->T3->Prop}{G:Prop}(h:∃ x0,∃ x1,∃ x2,∃ x3,P0 x0 x1 x2 x3∧P1 x0 x1 x2 x3∧P2 x0 x1 x2 x3∧P3 x0 x1 x2 x3∧P4 x0 x1 x2 x3)(f:∀ x0,∀ x1,∀ x2,∀ x3,P0 x0 x1 x2 x3->P1 x0 x1 x2 x3->P2 x0 x1 x2 x3->P3 x0 x1 x2 x3->P4 x0 x1 x2 x3->G):G:=by
 obtain⟨a0,a1,a2,a3,a4,a5,a6,a7,a8⟩:=h
 exact f a0 a1 a2 a3 a4 a5 a6 a7 a8
theorem r6 {T0 T1 T2 T3:Sort _}{P0 P1 P2 P3 P4 P5:T0->T1->T2->T3->Prop}{G:Prop}(h:∃ x0,∃ x1,∃ x2,∃ x3,P0 x0 x1 x2 x3∧P1 x0 x1 x2 x3∧P2 x0 x1 x2 x3∧P3 x0 x1 x2 x3∧P4 x0 x1 x2 x3∧P5 x0 x1 x2 x3)(f:∀ x0,∀ x1,∀ x2,∀ x3,P0 x0 x1 x2 x3->P1 x0 x1 x2 x3->P2 x0 x1 x2 x3->P3 x0 x1 x2 x3->P4 x0 x1 x2 x3->P5 x0 x1 x2 x3->G):G:=by
 obtain⟨a0,a1,a2,a3,a4,a5,a6,a7,a8,a9⟩:=h
 exact f a0 a1 a2 a3 a4 a5 a6 a7 a8 a9
theorem yr {T0 T1 T2 T3:Sort _}{P0 P1 P2 P3 P4 P5 P6:T0->T1->T2->T3->Prop}{G:Prop}(h:∃ x0,∃ x1,∃ x2,∃ x3,P0 x0 x1 x2 x3∧P1 x0 x1 x2 x3∧P2 x0 x1 x2 x3∧P3 x0 x1 x2 x3∧P4 x0 x1 x2 x3∧P5 x0 x1 x2 x3∧P6 x0 x1 x2 x3)(f:∀ x0,∀ x1,∀ x2,∀ x3,P0 x0 x1 x2 x3->P1 x0 x1 x2 x3->P2 x0 x1 x2 x3->P3 x0 x1 x2 x3->P4 x0 x1 x2 x3->P5 x0 x1 x2 x3->P6 x0 x1 x2 x3->G):G:=by
 obtain⟨a0,a1,a2,a3,a4,a5,a6,a7,a8,a9,a10⟩:=h
 exact f a0 a1 a2 a3 a4 a5 a6 a7 a8 a9 a10
theorem Fp {T0 T1 T2 T3 T4:Sort _}{P0 P1 P2 P3 P4 P5:T0->T1->T2->T3->T4->Prop}{G:Prop}(h:∃ x0,∃ x1,∃ x2,∃ x3,∃ x4,P0 x0 x1 x2 x3 x4∧P1 x0 x1 x2 x3 x4∧P2 x0 x1 x2 x3 x4∧P3 x0 x1 x2 x3 x4∧P4 x0 x1 x2 x3 x4∧P5 x0 x1 x2 x3 x4)(f:∀ x0,∀ x1,∀ x2,∀ x3,∀ x4,P0 x0 x1 x2 x3 x4->P1 x0 x1 x2 x3 x4->P2 x0 x1 x2 x3 x4->P3 x0 x1 x2 x3 x4->P4 x0 x1 x2 x3 x4->P5 x0 x1 x2 x3 x4->G):G:=by
 obtain⟨a0,a1,a2,a3,a4,a5,a6,a7,a8,a9,a10⟩:=h
 exact f a0 a1 a2 a3 a4 a5 a6 a7 a8 a9 a10
theorem aQ {α:Type _}{a:α}{G:Prop}(h:none=some a):G:=nomatch h
theorem yh {α:Type _}{a:α}{G:Prop}(h:some a=none):G:=nomatch h
theorem Fd {G:Prop}(h:true=false):G:=nomatch h
theorem dF {G:Prop}(h:false=true):G:=nomatch h
end L2
set_option Elab.async false
set_option maxRecDepth 100000
open PySem PySem.Spec PyProof.Rows
namespace L2
abbrev dm:=Sum Int Str
def xy:dm->Value->Bool
 | .inl k,v=>Value.isInt k v
 | .inr x,v=>Value.isStrOf x v
def Eh (w:World):dm->Int
 | .inl k=>hashInt k
 | .inr x=>hashStr w x
theorem ib:∀ {k:dm} {v:Value},xy k v=true->(∃ i t,k=Sum.inl i∧v=Value.int i t)∨(∃ x t,k=Sum.inr x∧v=Value.str x t)
 | .inl i,v,h=>by
  obtain⟨t,e⟩:=Value.isInt_shape (k:=i) (v:=v) h
  exact .inl ⟨i,t,rfl,e⟩
 | .inr x,v,h=>by
  obtain⟨t,e⟩:=Value.isStrOf_shape (x:=x) (v:=v) h
  exact .inr ⟨x,t,rfl,e⟩
theorem Ei (a b:Int):decide ((Sum.inl a:dm)=Sum.inl b)=(a==b):=by
 by_cases e:a=b
 ·subst e;simp
 ·have h:¬ (Sum.inl a:dm)=Sum.inl b:=fun q=>e (Sum.inl.inj q)
  rw[decide_eq_false h]
  exact (beq_eq_false_iff_ne.mpr e).symm
theorem El (a b:Str):decide ((Sum.inr a:dm)=Sum.inr b)=decide (a=b):=by
 by_cases e:a=b
 ·subst e;simp
 ·have h:¬ (Sum.inr a:dm)=Sum.inr b:=fun q=>e (Sum.inr.inj q)
  rw[decide_eq_false h,decide_eq_false e]
theorem Ej (a:Int)(b:Str):decide ((Sum.inl a:dm)=Sum.inr b)=false:=decide_eq_false (fun q=>nomatch q)
theorem Ek (a:Str)(b:Int):decide ((Sum.inr a:dm)=Sum.inl b)=false:=decide_eq_false (fun q=>nomatch q)
def x_ (prog:Program)(w:World):PySem.KeyKind prog w dm where
 is:=xy
 hash:=Eh w
 inj:=fun v a b ha hb=>by
  rcases ib ha with ⟨i,t,rfl,rfl⟩ | ⟨x,t,rfl,rfl⟩
  ·rcases ib hb with ⟨j,u,rfl,e⟩ | ⟨y,u,rfl,e⟩
   ·injection e with e1 _;rw[e1]
   ·exact nomatch e
  ·rcases ib hb with ⟨j,u,rfl,e⟩ | ⟨y,u,rfl,e⟩
   ·exact nomatch e
   ·injection e with e1 _;rw[e1]
 byValue:=fun k v h=>by
  rcases ib h with ⟨i,t,rfl,rfl⟩ | ⟨x,t,rfl,rfl⟩ <;> rfl
 pyHash:=fun hv h=>by
  rcases ib hv with ⟨i,t,rfl,rfl⟩ | ⟨x,t,rfl,rfl⟩
  ·exact wpAny_pyHash_int h
  ·exact wpAny_pyHash_str h
 eqBool:=fun hu hv h=>by
  rcases ib hu with ⟨i,t,rfl,rfl⟩ | ⟨x,t,rfl,rfl⟩
  ·rcases ib hv with ⟨j,u,rfl,rfl⟩ | ⟨y,u,rfl,rfl⟩
   ·rw[Ei] at h;exact wpAny_eqBool_int h
   ·rw[Ej] at h;exact SeqAt.EqAt.int_str i t y u _ _ _ _ h
  ·rcases ib hv with ⟨j,u,rfl,rfl⟩ | ⟨y,u,rfl,rfl⟩
   ·rw[Ek] at h;exact SeqAt.EqAt.str_int x t j u _ _ _ _ h
   ·rw[El] at h;exact wpAny_eqBool_str h
 «strs»:=fun k x t v h=>by
  rcases ib h with ⟨i,u,rfl,e⟩ | ⟨y,u,rfl,e⟩
  ·exact nomatch e
  ·injection e with e1 _
   subst e1
   cases v <;> rfl
end L2
namespace L2
inductive V where
 | non | bl (b:Bool) | int (i:Int) | str (x:Str) | byt (b:Array UInt8) | flt (b:UInt64) | ref (a:Addr) | ty (n:String)
 deriving DecidableEq
def RelV:V->Value->Prop
 | .non,u=>u=Value.none
 | .bl b,u=>u=Value.bool b
 | .int i,u=>∃ t,u=Value.int i t
 | .str x,u=>∃ t,u=Value.str x t
 | .byt b,u=>∃ t,u=Value.bytes b t
 | .flt b,u=>∃ t,u=Value.float b t
 | .ref a,u=>u=Value.ref a
 | .ty n,u=>u=Value.type n
abbrev aG:List V->List Value->Prop:=Paired RelV
theorem aG.length {xs:List V}{us:List Value}(r:aG xs us):xs.length=us.length:=Paired.length r
theorem aG.get:∀ {xs:List V} {us:List Value} {i:Nat} {x:V},aG xs us->xs[i]?=some x->∃ u,us[i]?=some u∧RelV x u
 | _,_,_,_,.nil,e=>by simp at e
 | _,_,0,_,.cons r _,e=>by simp at e;subst e;exact⟨_,rfl,r⟩
 | _,_,i+1,x,.cons _ t,e=>by
  obtain⟨u,h1,h2⟩:=aG.get (i:=i) (x:=x) t (by simpa using e)
  exact⟨u,by simpa using h1,h2⟩
theorem aG.set {x:V}{u:Value}(r:RelV x u):∀ {xs:List V} {us:List Value} (i:Nat),aG xs us->aG (xs.set i x) (us.set i u)
 | _,_,_,.nil=>.nil
 | _,_,0,.cons _ t=>.cons r t
 | _,_,i+1,.cons q t=>.cons q (aG.set r i t)
theorem aG.append {xs ys:List V}{us ws:List Value}(h:aG xs us)(s:aG ys ws):aG (xs++ys) (us++ws):=by
 induction h with
 | nil=>exact s
 | cons r t ih=>exact .cons r ih
theorem aG.take:∀ {xs:List V} {us:List Value} (n:Nat),aG xs us->aG (xs.take n) (us.take n)
 | _,_,0,_=>.nil
 | _,_,_+1,.nil=>.nil
 | _,_,n+1,.cons r t=>.cons r (aG.take n t)
theorem aG.drop:∀ {xs:List V} {us:List Value} (n:Nat),aG xs us->aG (xs.drop n) (us.drop n)
 | _,_,0,r=>r
 | _,_,_+1,.nil=>.nil
 | _,_,n+1,.cons _ t=>aG.drop n t
theorem aG.none_of:∀ {xs:List V} {us:List Value} {i:Nat},aG xs us->xs[i]?=none->us[i]?=none:=fun {xs us i} r e=>by
 have h1:=r.length
 have h2:xs.length≤i:=List.getElem?_eq_none_iff.mp e
 exact List.getElem?_eq_none_iff.mpr (by omega)
def iG:Option V->Option Value->Prop
 | some v,some u=>RelV v u
 | none,none=>True
 | _,_=>False
def KV {κ:Type}:List (κ×V)->List (κ×Value)->Prop:=Paired fun (p:κ×V) (q:κ×Value)=>p.1=q.1∧RelV p.2 q.2
def kV:dm->V
 | .inl i=>.int i
 | .inr x=>.str x
inductive HO where
 /-- a list -/
 | lst (xs:List V)
 /-- a tuple (never changes) -/
 | tup (xs:List V)
 /-- a dict whose keys are ints and texts;one whose keys are tuples of ints and texts (the empty one is both) -/
 | dK (kvs:List (dm×V)) | dT (kvs:List (List dm×V))
 /-- a set of ints: its members,its size -/
 | set (S:Int->Bool) (n:Nat)
 /-- an instance of the class at C,its dict at dx,its attributes -/
 | ins (C dx:Addr) (fs:List (Str×V))
 /-- the dict of the instance at x -/
 | own (x:Addr)
 /-- the dict of an exception -/
 | xd (fs:List (Str×V))
 /-- a bound method,f of x -/
 | met (f x:Addr)
 /-- a range object lo,lo+1,.. below hi -/
 | rng (lo hi:Int)
 /-- a thing that is known to the object (the script;a dict while a loop walks it): read,never written while it is so -/
 | frz (o:Obj) (u:HO)
 /-- a code object's table -/
 | tbl (ps:Array Value)
 | tab
 /-- any other thing,by what is true of its one object (a def of one's own: SetO a S n:=HO.ext fun h=>..) -/
 | ext (φ:Heap->Prop)
abbrev Hp:=Addr->Option HO
def upd (H:Hp)(a:Addr)(o:HO):Hp:=fun b=>if b=a then some o else H b
theorem bC {H:Hp}{a:Addr}{o:HO}:upd H a o a=some o:=by unfold upd;rw[if_pos rfl]
theorem aD {H:Hp}{a b:Addr}{o:HO}(h:b≠a):upd H a o b=H b:=by unfold upd;rw[if_neg h]
theorem bV {H:Hp}{a b:Addr}{o:HO}(h:H a=some o)(h':H b=none):a≠b:=by
 intro e;subst e;rw[h] at h';cases h'
section
variable (P:Program)(w:World)
def c9 (H:Hp)(h:Heap)(a:Addr):HO->Prop
 | .lst xs=>xs.length≤sizeLine∧∃ (its:List Value) (n:Nat),aG xs its∧h.get? a=some {cls:=.type "list",data:=.seq its.toArray n}
 | .tup xs=>xs.length≤sizeLine∧∃ its:List Value,aG xs its∧IsTup h a its.toArray
 | .dK kvs=>kvs.length≤sizeLine∧(a==sysModules)=false∧∃ vs,KV kvs vs∧h.DictOf (x_ P w) a vs
 | .dT kvs=>kvs.length≤sizeLine∧(a==sysModules)=false∧∃ xs:List (List dm×Addr×Value),
  Paired (fun (p:List dm×V) (q:List dm×Addr×Value)=>p.1=q.1∧H q.2.1=some (.tup (p.1.map kV))∧RelV p.2 q.2.2) kvs xs ∧
  ∃ o es ep,h.get? a=some o∧o.ExactDict∧o.data=.dict es ep∧es.toList=xs.map (entryOfKey (tupleKind (x_ P w)))∧(xs.map (·.1)).Nodup
 | .set S n=>h.SetOf (intKind P w) a S n
 | .ins C dx fs=>H dx=some (.own a)∧fs.length≤1000∧dx≠a∧h.get? a=some (PySem.W.instObj C dx) ∧
  ∃ mA,h.Ns1 dx mA∧(∀ f,iG (fs.lookup f) (mA f))∧PySem.Within mA (fs.map (·.1))
 | .own _=>∃ o,h.get? a=some o
 | .xd fs=>∃ mA,h.Ns1 a mA∧∀ f,iG (fs.lookup f) (mA f)
 | .rng lo hi=>∃ t u v,h.get? a=some {cls:=.type "range",data:=.fields #[.int lo t,.int hi u,.int 1 v]}
 | .frz o u=>h.get? a=some o∧c9 H h a u
 | .tbl ps=>h.get? a=some {cls:=.none,data:=.fields ps}
 | .met f x=>h.get? a=some (PySem.W.methodObj (.ref f) (.ref x))
 | .tab=>∃ ps:Array Value,h.get? a=some (PySem.W.tabObj ps)∧TriplesOk ps.toList∧∀ pos c,codeAmong pos ps.toList=some c->∃ c' oc vs q t φ,c=Value.ref c'∧H c'=some (.frz oc φ)∧oc.data=.fields vs∧vs[1]?=some (Value.str q t)
 | .ext φ=>φ h∧(∃ o,h.get? a=some o)∧∀ h1 h2:Heap,φ h1->(∀ o,h1.get? a=some o->h2.get? a=some o)->φ h2
def cb (H:Hp)(h:Heap):Prop:=∀ a o,H a=some o->c9 P w H h a o
end
section
variable {P:Program}{w:World}{H H':Hp}{h h':Heap}{a:Addr}{o:HO}
theorem c9.lt (x:c9 P w H h a o):a<h.objs.size:=by
 cases o with
 | lst xs=>obtain⟨_,_,_,_,e⟩:=x;exact Heap.lt_size e
 | tup xs=>obtain⟨_,_,_,p⟩:=x;exact p.lt
 | dK kvs=>obtain⟨_,_,_,_,o,_,_,e,_⟩:=x;exact Heap.lt_size e
 | dT kvs=>obtain⟨_,_,_,_,o,_,_,e,_⟩:=x;exact Heap.lt_size e
 | set S n=>obtain⟨o,_,_,_,e,_⟩:=x;exact Heap.lt_size e
 | ins C dx fs=>obtain⟨_,_,_,e,_⟩:=x;exact Heap.lt_size e
 | own y=>obtain⟨_,e⟩:=x;exact Heap.lt_size e
 | xd fs=>obtain⟨_,⟨_,_,_,e,_⟩,_⟩:=x;exact Heap.lt_size e
 | rng lo hi=>obtain⟨_,_,_,e⟩:=x;exact Heap.lt_size e
 | frz ob u=>obtain⟨e,_⟩:=x;exact Heap.lt_size e
 | tbl ps=>exact Heap.lt_size (show h.get? a=some _ from x)
 | met f y=>exact Heap.lt_size (show h.get? a=some _ from x)
 | tab=>obtain⟨_,e,_⟩:=x;exact Heap.lt_size e
 | ext φ=>obtain⟨_,⟨_,e⟩,_⟩:=x;exact Heap.lt_size e
theorem Paired.mapP {α β:Type}{F G:α->β->Prop}{l₁:List α}{l₂:List β}(h:Paired F l₁ l₂)(f:∀ a b,F a b->G a b):Paired G l₁ l₂:=by
 induction h with
 | nil=>exact .nil
 | cons r t ih=>exact .cons (f _ _ r) ih
theorem c9.stay (x:c9 P w H h a o)(k:∀ b u,(b=a∨H b=some (.own a))->h.get? b=some u->h'.get? b=some u)
  (ho:∀ b,H b=some (.own a)->H' b=some (.own a)) (ht:∀ b xs,H b=some (.tup xs)->H' b=some (.tup xs)) (hz:∀ b o u vs,o.data=.fields vs->H b=some (.frz o u)->H' b=some (.frz o u):=by exact fun _ _ _ _ _ q=>q):c9 P w H' h' a o:=by
 induction o with
 | lst xs=>obtain⟨z,its,n,r,e⟩:=x;exact⟨z,its,n,r,k _ _ (.inl rfl) e⟩
 | tup xs=>obtain⟨z,its,r,ob,e,c⟩:=x;exact⟨z,its,r,ob,k _ _ (.inl rfl) e,c⟩
 | dK kvs=>obtain⟨z,y,vs,r,ob,es,ep,e,c⟩:=x;exact⟨z,y,vs,r,ob,es,ep,k _ _ (.inl rfl) e,c⟩
 | dT kvs=>
  obtain⟨z,y,xs,r,ob,es,ep,e,c⟩:=id x
  exact ⟨z,y,xs,(Paired.mapP r fun p q z=>⟨z.1,ht _ _ z.2.1,z.2.2⟩),ob,es,ep,k _ _ (.inl rfl) e,c⟩
 | set S n=>obtain⟨ob,es,ep,t,e,c⟩:=x;exact⟨ob,es,ep,t,k _ _ (.inl rfl) e,c⟩
 | ins C dx fs=>
  obtain⟨d,z,ne,e,mA,⟨od,es,ep,e2,c⟩,r⟩:=x
  exact⟨ho _ d,z,ne,k _ _ (.inl rfl) e,mA,⟨od,es,ep,k _ _ (.inr d) e2,c⟩,r⟩
 | own y=>obtain⟨ob,e⟩:=x;exact⟨ob,k _ _ (.inl rfl) e⟩
 | xd fs=>obtain⟨mA,⟨od,es,ep,e,c⟩,r⟩:=x;exact⟨mA,⟨od,es,ep,k _ _ (.inl rfl) e,c⟩,r⟩
 | rng lo hi=>obtain⟨t,u,v,e⟩:=x;exact⟨t,u,v,k _ _ (.inl rfl) e⟩
 | frz ob u ih=>obtain⟨e,q⟩:=x;exact⟨k _ _ (.inl rfl) e,ih q⟩
 | tbl ps=>
  have e:h.get? a=some {cls:=.none,data:=.fields ps}:=x
  show h'.get? a=some {cls:=.none,data:=.fields ps}
  exact k a _ (.inl rfl) e
 | met f y=>
  have e:h.get? a=some (PySem.W.methodObj (.ref f) (.ref y)):=x
  show h'.get? a=some (PySem.W.methodObj (.ref f) (.ref y))
  exact k a _ (.inl rfl) e
 | ext φ=>obtain⟨p,⟨o,e⟩,st⟩:=x;exact⟨st _ _ p fun o q=>k _ _ (.inl rfl) q,⟨o,k _ _ (.inl rfl) e⟩,st⟩
 | tab=>
  obtain⟨ps,e,tr,co⟩:=id x
  exact⟨ps,k _ _ (.inl rfl) e,tr,fun pos c z=>let ⟨c',oc,vs,q,t,φ,h1,h2,h3,h4⟩:=co pos c z;⟨c',oc,vs,q,t,φ,h1,hz _ _ _ _ h3 h2,h3,h4⟩⟩
theorem cb.lt (x:cb P w H h)(e:H a=some o):a<h.objs.size:=(x a o e).lt
theorem cb.fresh (x:cb P w H h)(e:h.objs.size≤a):H a=none:=by
 cases q:H a with
 | none=>rfl
 | some u=>exact absurd (Nat.lt_of_lt_of_le (x.lt q) e) (Nat.lt_irrefl _)
theorem cb.kept (x:cb P w H h)(k:∀ b u,h.get? b=some u->h'.get? b=some u):cb P w H h':=fun a o e=>
 (x a o e).stay (fun b u _ q=>k b u q) (fun _ q=>q) fun _ _ q=>q
theorem cb.laid (x:cb P w H h)(k:∀ b u,h.get? b=some u->h'.get? b=some u)(hp:h.objs.size≤a)(new:c9 P w (upd H a o) h' a o):cb P w (upd H a o) h':=fun b u e=>by
 have hn:=x.fresh hp
 by_cases hb:b=a
 ·subst hb;rw[bC] at e;cases e;exact new
 ·rw[aD hb] at e
  exact (x b u e).stay (fun c v _ q=>k c v q) (fun c q=>by rw[aD (bV q hn)];exact q) (fun c xs q=>by rw[aD (bV q hn)];exact q) fun c ob xs _ _ q=>by rw[aD (bV q hn)];exact q
end
def Rd (H:Hp)(a:Addr)(u:HO):Prop:=H a=some u∨∃ o,H a=some (.frz o u)
theorem Rd.of {H:Hp}{a:Addr}{u:HO}(h:H a=some u):Rd H a u:=.inl h
theorem Rd.ok {P:Program}{w:World}{H:Hp}{h:Heap}{a:Addr}{u:HO}(r:Rd H a u)(x:cb P w H h):c9 P w H h a u:=by
 rcases r with r | ⟨o,r⟩
 ·exact x a u r
 ·obtain⟨_,q⟩:=x a _ r
  exact q
def m5:Option HO->Prop
 | some (.lst _)=>True
 | some (.dK _)=>True
 | some (.dT _)=>True
 | some (.set _ _)=>True
 | some (.ins _ _ _)=>True
 | some (.ext _)=>True
 | _=>False
section
variable {P:Program}{w:World}{H:Hp}{h h':Heap}{x e:Addr}{o':HO}
theorem cb.write (ok:cb P w H h)(mu:m5 (H x))(he:e=x∨H e=some (.own x))(k:∀ b u,b≠e->h.get? b=some u->h'.get? b=some u)(heo:∃ u,h'.get? e=some u)
  (new:c9 P w (upd H x o') h' x o'):cb P w (upd H x o') h':=fun b u q=>by
 have nown:∀ c y,H c=some (.own y)->c≠x:=fun c y r z=>by subst z;rw[r] at mu;exact mu
 have ntup:∀ c xs,H c=some (.tup xs)->c≠x:=fun c xs r z=>by subst z;rw[r] at mu;exact mu
 have nfrz:∀ c ob xs,H c=some (.frz ob xs)->c≠x:=fun c ob xs r z=>by subst z;rw[r] at mu;exact mu
 by_cases hb:b=x
 ·subst hb;rw[bC] at q;cases q;exact new
 ·rw[aD hb] at q
  by_cases hbe:b=e
  ·have q':H b=some (.own x):=by
    rcases he with z | z
    ·exact absurd (hbe.trans z) hb
    ·rw[hbe];exact z
   rw[q] at q';cases q'
   obtain⟨v,hv⟩:=id heo
   exact⟨v,by rw[hbe];exact hv⟩
  ·refine (ok b u q).stay (fun c v hc r=>k c v ?_ r) (fun c r=>by rw[aD (nown c b r)];exact r) (fun c xs r=>by rw[aD (ntup c xs r)];exact r) fun c ob xs _ _ r=>by rw[aD (nfrz c ob xs r)];exact r
   rcases hc with rfl | hc
   ·exact hbe
   ·rintro rfl
    rcases he with z | z
    ·exact nown c b hc z
    ·rw[hc] at z;cases z;exact hb rfl
end
structure Un (fs ex:List Addr)(H H':Hp)(h h':Heap):Prop where
 keep:∀ b o,h.get? b=some o->H b=none->b∉fs->b∉ex->h'.get? b=some o
 slot:∀ b o,h.get? b=some o->H b=none->b∈fs->b∉ex->∃ sl,h'.get? b=some {o with slots:=sl}
 free:∀ b o,h.get? b=some o->H b=none->b∉ex->H' b=none
 there:∀ b o,h.get? b=some o->b∉ex->∃ o',h'.get? b=some o'
 tups:∀ b xs,H b=some (.tup xs)->H' b=some (.tup xs)
 frzs:∀ b o u,H b=some (.frz o u)->H' b=some (.frz o u)
 tbls:∀ b ps,H b=some (.tbl ps)->∃ more,H' b=some (.tbl (ps++more))
 tabs:∀ b,H b=some .tab->H' b=some .tab
section
variable {fs fs' ex ex':List Addr}{H H1 H2:Hp}{h h1 h2 h':Heap}{a x e:Addr}{o:HO}
theorem Un.any (u:Un fs ex H H1 h h1){b:Addr}{ob:Obj}(q:h.get? b=some ob)(n:H b=none)(hx:b∉ex):∃ sl,h1.get? b=some {ob with slots:=sl}:=by
 by_cases hb:b∈fs
 ·exact u.slot b ob q n hb hx
 ·exact⟨ob.slots,u.keep b ob q n hb hx⟩
theorem Un.trans (a:Un fs ex H H1 h h1)(b:Un fs ex H1 H2 h1 h2):Un fs ex H H2 h h2 where
 keep:=fun c ob q n hc hx=>b.keep c ob (a.keep c ob q n hc hx) (a.free c ob q n hx) hc hx
 slot:=fun c ob q n hc hx=>by
  obtain⟨sl,e1⟩:=a.slot c ob q n hc hx
  obtain⟨sl',e2⟩:=b.slot c _ e1 (a.free c ob q n hx) hc hx
  exact⟨sl',e2⟩
 free:=fun c ob q n hx=>by
  obtain⟨o',e1⟩:=a.there c ob q hx
  exact b.free c o' e1 (a.free c ob q n hx) hx
 there:=fun c ob q hx=>by
  obtain⟨o',e1⟩:=a.there c ob q hx
  exact b.there c o' e1 hx
 tups:=fun c xs q=>b.tups c xs (a.tups c xs q)
 frzs:=fun c ob xs q=>b.frzs c ob xs (a.frzs c ob xs q)
 tabs:=fun c q=>b.tabs c (a.tabs c q)
 tbls:=fun c ps q=>by
  obtain⟨m1,e1⟩:=a.tbls c ps q
  obtain⟨m2,e2⟩:=b.tbls c _ e1
  exact⟨m1++m2,by rw[e2,Array.append_assoc]⟩
theorem Un.kept (k:∀ b u,h.get? b=some u->h'.get? b=some u):Un fs ex H H h h':=
 ⟨fun b ob q _ _ _=>k b ob q,fun b ob q _ _ _=>⟨ob.slots,k b ob q⟩,fun _ _ _ n _=>n,fun b ob q _=>⟨ob,k b ob q⟩,fun _ _ q=>q,fun _ _ _ q=>q,fun _ ps q=>⟨#[],by rw[q];simp⟩,fun _ q=>q⟩
theorem Un.refl:Un fs ex H H h h:=Un.kept fun _ _ q=>q
theorem Un.laid (k:∀ b u,h.get? b=some u->h'.get? b=some u)(hp:h.objs.size≤a)(hn:H a=none):Un fs ex H (upd H a o) h h' where
 keep:=fun b u q _ _ _=>k b u q
 slot:=fun b u q _ _ _=>⟨u.slots,k b u q⟩
 free:=fun b u q n _=>by rw[aD (Nat.ne_of_lt (Nat.lt_of_lt_of_le (Heap.lt_size q) hp))];exact n
 there:=fun b u q _=>⟨u,k b u q⟩
 tups:=fun b xs q=>by rw[aD (bV q hn)];exact q
 frzs:=fun b u xs q=>by rw[aD (bV q hn)];exact q
 tbls:=fun b ps q=>⟨#[],by rw[aD (bV q hn),q];simp⟩
 tabs:=fun b q=>by rw[aD (bV q hn)];exact q
theorem Un.write (mu:m5 (H x))(he:e=x∨H e=some (.own x))(k:∀ b u,b≠e->h.get? b=some u->h'.get? b=some u)(heo:∃ u,h'.get? e=some u):Un fs ex H (upd H x o) h h':=by
 have hx:∀ b,H b=none->b≠x:=fun b n z=>by subst z;rw[n] at mu;exact mu
 have hb:∀ b,H b=none->b≠e:=fun b n z=>by
  subst z
  rcases he with r | r
  ·exact hx b n r
  ·rw[n] at r;cases r
 have hm:∀ b u,H b=some u->¬ m5 (some u)->b≠x:=fun b u q nm z=>by subst z;rw[q] at mu;exact nm mu
 refine⟨fun b u q n _ _=>k b u (hb b n) q,fun b u q n _ _=>⟨u.slots,k b u (hb b n) q⟩,fun b u q n _=>by rw[aD (hx b n)];exact n,fun b u q _=>?_,
  fun b xs q=>by rw[aD (hm b _ q fun z=>z)];exact q,fun b u xs q=>by rw[aD (hm b _ q fun z=>z)];exact q,fun b ps q=>⟨#[],by rw[aD (hm b _ q fun z=>z),q];simp⟩,fun b q=>by rw[aD (hm b _ q fun z=>z)];exact q⟩
 by_cases hbe:b=e
 ·subst hbe;exact heo
 ·exact⟨u,k b u hbe q⟩
theorem Un.mono (u:Un fs ex H H1 h h1)(hs:∀ b∈fs,b∈fs')(hx:∀ b∈ex,b∈ex'):Un fs' ex' H H1 h h1:=
 ⟨fun b ob q n hb he=>u.keep b ob q n (fun z=>hb (hs b z)) fun z=>he (hx b z),fun _ _ q n _ he=>u.any q n fun z=>he (hx _ z),fun b ob q n he=>u.free b ob q n fun z=>he (hx b z),fun b ob q he=>u.there b ob q fun z=>he (hx b z),u.tups,u.frzs,u.tbls,u.tabs⟩
end
def o_ (h:Heap)(H:Hp):List Addr:=(List.range h.objs.size).filter fun a=>(H a).isSome
def gA (h:Heap)(H:Hp):Heap:=PySem.W.hideAll h (o_ h H)
theorem DB (h:Heap)(H:Hp):(gA h H).objs.size=h.objs.size:=PySem.W.hideAll_size _ _
theorem DA {h:Heap}{H:Hp}{b:Addr}{o:Obj}(e:h.get? b=some o)(n:H b=none):(gA h H).get? b=some o:=
 PySem.W.hideAll_get _ e fun hm=>by
  have q:(H b).isSome=true:=(List.mem_filter.mp hm).2
  rw[n] at q;simp at q
theorem Ft {h:Heap}{H:Hp}{b:Addr}{o:Obj}(e:(gA h H).get? b=some o):h.get? b=some o∧H b=none:=by
 have e':h.get? b=some o:=PySem.W.of_hideAll (o_ h H) e
 refine⟨e',?_⟩
 cases q:H b with
 | none=>rfl
 | some x=>
  have hm:b∈o_ h H:=List.mem_filter.mpr ⟨List.mem_range.mpr (Heap.lt_size e'),by simp[q]⟩
  have z:(gA h H).get? b=none:=PySem.W.hideAll_none (o_ h H) hm
  rw[z] at e;cases e
def Bd (g h:Heap)(L:Addr):List (Addr×Obj):=(List.range h.objs.size).filterMap fun a=>if a=L∨(g.get? a).isSome=true then none else (h.get? a).map fun o=>(a,o)
def rest (g h:Heap)(L d:Addr):List (Addr×Obj):=(Bd g h L).filter fun p=>decide (p.1≠d)
end L2
namespace L2
structure Mod (K:PySem.W.Frag)(mg:Str->Option Value)(base:Heap):Prop where
 kin:K.In base
 glob:base.Ns mainGlobals mg
 blt:∃ mb,base.Ns builtinsNs mb∧∀ x:Str,x≠"__name__"->mb x=bootBuiltins x
 nolimit:base.NoLimit
def cS (P:Program):List Str:=((recsOf P).filter fun d=>(freeInTheComprehensionsStmts d.body).isNone).map (·.name)
def qu (P:Program)(K:PySem.W.Frag)(mg:Str->Option Value)(base:Heap)(H:Hp):Prop:=∀ x c p,x∈cS P->PySem.W.tabIn K x=some (c,p)->H p=some .tab∧PySem.W.CodeHd base c p∧base.BuiltinsAt mg p
structure Cx where
 prog:Program
 w:World
 K:PySem.W.Frag
 mg:Str->Option Value
 base:Heap
 A:Around
 N:List Str
 s₀:Shared
 H₀:Hp
 env:Env
 outer:List Env
 stack:List Env
 ex:List Addr
 fn:Str->Bool
 calm:Bool
 pn:List (Addr×Obj)
 xe:Value->Shared->Prop
def cG (l:List Env):List Addr:=l.filterMap (·.frame)
abbrev Cx.fs (X:Cx):List Addr:=cG X.outer
def j8 (sc:Scope)(x:Str):Prop:=sc.names.lookup x=some .local∨sc.names.lookup x=some .cell∨sc.names.lookup x=some .free
def Loc (sc:Scope)(x:Str):Prop:=sc.names.lookup x=some .local∨sc.names.lookup x=some .cell
def Look (env:Env)(h:Heap)(m:Str->Option Value)(x:Str)(u:Value):Prop:=
 (env.kindOf x=some .local∧m x=some u)∨((env.kindOf x=some .cell∨env.kindOf x=some .free)∧∃ c,env.cells.lookup x=some c∧h.IsCell c (some u))
structure Cx.Ok (X:Cx):Prop where
 mod:Mod X.K X.mg X.base
 kind:X.env.scope.kind=.function
 glob:X.env.globals=mainGlobals
 blt:X.env.builtins=builtinsNs
 above:X.s₀.heap.objs.size≤X.env.locals
 inj:∀ x y c,X.env.cells.lookup x=some c->X.env.cells.lookup y=some c->x=y
 has:∀ x,(X.env.kindOf x=some .cell∨X.env.kindOf x=some .free)->∃ c,X.env.cells.lookup x=some c
 cab:∀ x c,X.fn x=true->X.env.cells.lookup x=some c->X.s₀.heap.objs.size≤c
 hd:X.calm=true->X.A.handled=none
 frames:X.A.frames=some X.stack
 stk:X.stack=X.outer∨(X.stack=X.env::X.outer∧X.env.frame=some X.env.locals)
 exf:∀ b∈X.ex,b≠X.env.locals∧∀ x c,X.env.cells.lookup x=some c->c≠b
 bs:∀ b o,X.base.get? b=some o->X.s₀.heap.get? b=some o∧X.H₀ b=none
 bsz:X.base.objs.size≤X.s₀.heap.objs.size
 noex:∀ b o,X.base.get? b=some o->b∉X.ex
 exfs:∀ b∈X.ex,b∉X.fs
 funs:X.s₀.heap.FunFrames X.base X.outer
 frf:∀ b∈X.fs,X.H₀ b=none
 tabs:qu X.prog X.K X.mg X.base X.H₀
structure Inv (X:Cx)(pins:List (Addr×Obj))(σ:List (Option V))(H:Hp)(s:Shared):Prop where
 ok:X.Ok
 os:s.os=X.s₀.os
 bare:AllBare s.gens
 base:Un X.fs X.ex X.H₀ H X.s₀.heap s.heap
 loc:∃ m,s.heap.Ns X.env.locals m∧∀ (i:Nat) (x:Str) (v:V),X.N[i]?=some x->σ[i]?=some (some v)->j8 X.env.scope x->∃ u,RelV v u∧Look X.env s.heap m x u
 cell:∀ x c,X.env.cells.lookup x=some c->∃ v,s.heap.IsCell c v
 free:H X.env.locals=none
 freeC:∀ x c,X.env.cells.lookup x=some c->H c=none∨(X.fn x=false∧∃ o u,H c=some (.frz o u))
 pin:∀ p∈X.pn++pins,s.heap.get? p.1=some p.2∧H p.1=none∧p.1≠X.env.locals∧p.1∉X.fs∧∀ v,p.2.data≠.cell v
 hok:cb X.prog X.w H s.heap
 len:σ.length=X.N.length
section
variable {X:Cx}{pins:List (Addr×Obj)}{σ:List (Option V)}{H H':Hp}{s:Shared}{h':Heap}
theorem Cx.Ok.nofr (ok:X.Ok){b:Addr}{o:Obj}(e:X.base.get? b=some o):b∉X.fs:=fun hb=>by
 have:=(ok.funs.mem hb).1
 rw[e] at this;cases this
theorem Inv.bs (I:Inv X pins σ H s):∀ b o,X.base.get? b=some o->s.heap.get? b=some o∧H b=none:=fun b o e=>
 ⟨I.base.keep b o (I.ok.bs b o e).1 (I.ok.bs b o e).2 (I.ok.nofr e) (I.ok.noex b o e),I.base.free b o (I.ok.bs b o e).1 (I.ok.bs b o e).2 (I.ok.noex b o e)⟩
theorem Inv.bk (I:Inv X pins σ H s):∀ b o,X.base.get? b=some o->s.heap.get? b=some o:=fun b o e=>(I.bs b o e).1
theorem Inv.mod (I:Inv X pins σ H s):Mod X.K X.mg X.base:=I.ok.mod
theorem Inv.kIn (I:Inv X pins σ H s):X.K.In s.heap:=I.ok.mod.kin.keeps I.bk
theorem Inv.nolimit (I:Inv X pins σ H s):s.heap.NoLimit:=I.ok.mod.nolimit.keeps I.bk
theorem Inv.fr (I:Inv X pins σ H s):∃ m,Fr X.base X.env.locals s.heap m:=
 let ⟨m,hn,_⟩:=I.loc
 ⟨m,hn,I.bk,Nat.le_trans I.ok.bsz I.ok.above⟩
theorem Inv.lt (I:Inv X pins σ H s):X.env.locals<s.heap.objs.size:=let ⟨_,hn,_⟩:=I.loc;hn.lt
theorem Inv.sz (I:Inv X pins σ H s):X.s₀.heap.objs.size≤s.heap.objs.size:=Nat.le_trans I.ok.above (Nat.le_of_lt I.lt)
theorem Inv.nofs (I:Inv X pins σ H s){a:Addr}(h:s.heap.objs.size≤a):a∉X.fs:=fun hb=>by
 obtain⟨_,o,ho,_⟩:=I.ok.funs.mem hb
 exact absurd (Nat.lt_of_lt_of_le (Heap.lt_size ho) (Nat.le_trans I.sz h)) (Nat.lt_irrefl _)
theorem Inv.cne (I:Inv X pins σ H s):∀ x c,X.env.cells.lookup x=some c->c≠X.env.locals:=fun x c e z=>by
 obtain⟨v,o,ho,hd⟩:=I.cell x c e
 obtain⟨m,⟨o',es,ep,ho',hd',_⟩,_⟩:=I.loc
 rw[z,ho'] at ho;cases ho;rw[hd'] at hd;cases hd
theorem Inv.funs (I:Inv X pins σ H s):s.heap.FunFrames X.base X.outer:=by
 have all:∀ (l:List Env),(∀ b∈cG l,b∈X.fs)->X.s₀.heap.FunFrames X.base l->s.heap.FunFrames X.base l:=by
  intro l
  induction l with
  | nil=>intro _ _;trivial
  | cons env r ih=>
   intro hs hl
   obtain⟨hk,⟨L,o,hf,hn,ho,hd⟩,hr⟩:=hl
   have hL:L∈X.fs:=hs L (by unfold cG;rw[List.filterMap_cons,hf];exact List.mem_cons_self)
   obtain⟨sl,e⟩:=I.base.slot L o ho (I.ok.frf L hL) hL fun z=>I.ok.exfs L z hL
   exact⟨hk,⟨L,_,hf,hn,e,hd⟩,ih (fun b hb=>hs b (by unfold cG;rw[List.filterMap_cons,hf];exact List.mem_cons_of_mem _ hb)) hr⟩
 exact all X.outer (fun _ hb=>hb) I.ok.funs
theorem Inv.stack (I:Inv X pins σ H s):s.heap.FunFrames X.base X.stack:=by
 rcases I.ok.stk with e | ⟨e,hf⟩
 ·rw[e];exact I.funs
 ·rw[e]
  obtain⟨m,hn,_⟩:=I.loc
  refine .cons (by rw[I.ok.kind];decide) hf hn ?_ I.funs
  exact Heap.get?_none_of_le (Nat.le_trans I.ok.bsz I.ok.above)
theorem Inv.stkSub (I:Inv X pins σ H s):∀ b∈cG X.stack,b∈X.env.locals::X.fs:=fun b hb=>by
 rcases I.ok.stk with e | ⟨e,hf⟩
 ·rw[e] at hb;exact List.mem_cons_of_mem _ hb
 ·rw[e] at hb
  unfold cG at hb
  rw[List.filterMap_cons,hf] at hb
  exact hb
theorem Inv.stkFree (I:Inv X pins σ H s):∀ b∈cG X.stack,H b=none:=fun b hb=>by
 rcases List.mem_cons.mp (I.stkSub b hb) with e | hb
 ·rw[e];exact I.free
 ·obtain⟨_,o,ho,_⟩:=I.ok.funs.mem hb
  exact I.base.free b o ho (I.ok.frf b hb) fun z=>I.ok.exfs b z hb
theorem Inv.step {g':Array GenState}{t':Nat}{d':Drawn}{ch:List Addr}(I:Inv X pins σ H s)
  (hch:∀ b∈ch,(b∈X.ex∨X.s₀.heap.objs.size≤b)∧b≠X.env.locals∧(∀ x c,X.env.cells.lookup x=some c->c≠b)∧∀ p∈X.pn++pins,p.1≠b)
  (keep:∀ b o,b≠X.env.locals->b∉X.fs->b∉ch->s.heap.get? b=some o->H b=none->h'.get? b=some o)
  (slot:∀ b o,b≠X.env.locals->b∈X.fs->b∉ch->s.heap.get? b=some o->H b=none->∃ sl,h'.get? b=some {o with slots:=sl}) (free:∀ b o,b∉ch->s.heap.get? b=some o->H b=none->H' b=none)
  (there:∀ b o,b∉ch->s.heap.get? b=some o->∃ o',h'.get? b=some o')
  (tups:∀ b xs,H b=some (.tup xs)->H' b=some (.tup xs)) (frzs:∀ b o u,H b=some (.frz o u)->H' b=some (.frz o u)) (tbls:∀ b ps,H b=some (.tbl ps)->∃ more,H' b=some (.tbl (ps++more))) (tabs:∀ b,H b=some .tab->H' b=some .tab)
  (ns:∀ m,s.heap.Ns X.env.locals m->h'.Ns X.env.locals m) (hok:cb X.prog X.w H' h') (hg:AllBare g') :
  Inv X pins σ H' {s with heap:=h',gens:=g',drawn:=d',toks:=t' }:=by
 have neL:∀ b o,X.s₀.heap.get? b=some o->b≠X.env.locals:=fun b o e=>Nat.ne_of_lt (Nat.lt_of_lt_of_le (Heap.lt_size e) I.ok.above)
 have neC:∀ b o,X.s₀.heap.get? b=some o->b∉X.ex->b∉ch:=fun b o e hx hb=>by
  rcases (hch b hb).1 with z | z
  ·exact hx z
  ·exact absurd (Nat.lt_of_lt_of_le (Heap.lt_size e) z) (Nat.lt_irrefl _)
 have cellK:∀ x c,X.env.cells.lookup x=some c->∀ v,s.heap.IsCell c v->h'.IsCell c v:=fun x c e v zpat=>by
  obtain⟨o,ho,hd⟩:=zpat
  have nch:c∉ch:=fun z=>(hch c z).2.2.1 x c e rfl
  rcases I.freeC x c e with fc | ⟨_,ob,ub,fc⟩
  ·by_cases hc:c∈X.fs
   ·obtain⟨sl,q⟩:=slot c o (I.cne x c e) hc nch ho fc
    exact⟨_,q,hd⟩
   ·exact⟨o,keep c o (I.cne x c e) hc nch ho fc,hd⟩
  ·have q1:=(I.hok c _ fc).1
   have q2:=(hok c _ (frzs c ob ub fc)).1
   rw[ho] at q1
   obtain rfl:=Option.some.inj q1
   exact⟨o,q2,hd⟩
 refine⟨I.ok,I.os,hg,⟨fun b o e n hb hx=>?_,fun b o e n hb hx=>?_,fun b o e n hx=>?_,fun b o e hx=>?_,fun b xs e=>tups b xs (I.base.tups b xs e),fun b o xs e=>frzs b o xs (I.base.frzs b o xs e),fun b ps e=>?_,fun b e=>tabs b (I.base.tabs b e)⟩,?_,fun x c e=>?_,?_,fun x c e=>?_,fun p hp=>?_,hok,I.len⟩
 ·exact keep b o (neL b o e) hb (neC b o e hx) (I.base.keep b o e n hb hx) (I.base.free b o e n hx)
 ·obtain⟨sl,e1⟩:=I.base.slot b o e n hb hx
  obtain⟨sl',e2⟩:=slot b _ (neL b o e) hb (neC b o e hx) e1 (I.base.free b o e n hx)
  exact⟨sl',e2⟩
 ·obtain⟨o',e1⟩:=I.base.there b o e hx
  exact free b o' (neC b o e hx) e1 (I.base.free b o e n hx)
 ·obtain⟨o',e1⟩:=I.base.there b o e hx
  exact there b o' (neC b o e hx) e1
 ·obtain⟨m1,e1⟩:=I.base.tbls b ps e
  obtain⟨m2,e2⟩:=tbls b _ e1
  exact⟨m1++m2,by rw[e2,Array.append_assoc]⟩
 ·obtain⟨m,hn,hl⟩:=I.loc
  refine⟨m,ns m hn,fun i x v e1 e2 e3=>?_⟩
  obtain⟨u,r,l⟩:=hl i x v e1 e2 e3
  refine⟨u,r,?_⟩
  rcases l with l | ⟨k,c,e,z⟩
  ·exact .inl l
  ·exact .inr ⟨k,c,e,cellK x c e _ z⟩
 ·obtain⟨v,z⟩:=I.cell x c e
  exact⟨v,cellK x c e v z⟩
 ·obtain⟨m,⟨o,_,_,ho,_⟩,_⟩:=I.loc
  exact free _ o (fun z=>(hch _ z).2.1 rfl) ho I.free
 ·obtain⟨v,o,ho,hd⟩:=I.cell x c e
  rcases I.freeC x c e with fc | ⟨hfn,ob,ub,fc⟩
  ·exact .inl (free c o (fun z=>(hch c z).2.2.1 x c e rfl) ho fc)
  ·exact .inr ⟨hfn,ob,ub,frzs c ob ub fc⟩
 ·obtain⟨e,n,ne,nf,d⟩:=I.pin p hp
  have nch:p.1∉ch:=fun z=>(hch p.1 z).2.2.2 p hp rfl
  exact⟨keep p.1 p.2 ne nf nch e n,free p.1 p.2 nch e n,ne,nf,d⟩
theorem Inv.un {t':Nat}(I:Inv X pins σ H s)(u:Un X.fs [] H H' s.heap h')(hok:cb X.prog X.w H' h'):Inv X pins σ H' {s with heap:=h',toks:=t' }:=by
 obtain⟨m,⟨o,es,ep,ho,r⟩,_⟩:=id I.loc
 obtain⟨sl,hL⟩:=u.any ho I.free (by simp)
 exact I.step (g':=s.gens) (d':=s.drawn) (ch:=[]) (fun _ z=>nomatch z) (fun b o _ hb _ e n=>u.keep b o e n hb (by simp)) (fun b o _ hb _ e n=>u.slot b o e n hb (by simp)) (fun b o _ e n=>u.free b o e n (by simp)) (fun b o _ e=>u.there b o e (by simp)) u.tups u.frzs u.tbls u.tabs (fun m' hm=>by
  obtain⟨o',es',ep',ho',r'⟩:=id hm
  rw[ho] at ho';cases ho'
  exact⟨_,es',ep',hL,r'⟩) hok I.bare
theorem Inv.call {g':Array GenState}{t':Nat}{d':Drawn}{ch:List Addr}(I:Inv X pins σ H s)(u:Un (cG X.stack) ch H H' s.heap h')(hok:cb X.prog X.w H' h')(hg:AllBare g')
  (hch:∀ b∈ch,(b∈X.ex∨X.s₀.heap.objs.size≤b)∧b≠X.env.locals∧(∀ x c,X.env.cells.lookup x=some c->c≠b)∧∀ p∈X.pn++pins,p.1≠b) :
  Inv X pins σ H' {s with heap:=h',gens:=g',drawn:=d',toks:=t' }:=by
 obtain⟨m,⟨o,es,ep,ho,r⟩,_⟩:=id I.loc
 obtain⟨sl,hL⟩:=u.any ho I.free fun z=>(hch _ z).2.1 rfl
 exact I.step (ch:=ch) hch (fun b o hL hb hc e n=>u.keep b o e n (fun z=>(List.mem_cons.mp (I.stkSub b z)).elim hL hb) hc) (fun b o _ _ hc e n=>u.any e n hc) (fun b o hc e n=>u.free b o e n hc) (fun b o hc e=>u.there b o e hc) u.tups u.frzs u.tbls u.tabs (fun m' hm=>by
  obtain⟨o',es',ep',ho',r'⟩:=id hm
  rw[ho] at ho';cases ho'
  exact⟨_,es',ep',hL,r'⟩) hok hg
theorem Inv.turned {t':Nat}{it:Addr}(I:Inv X pins σ H s)(k:∀ b o,b≠it->s.heap.get? b=some o->h'.get? b=some o)(hn:H it=none)(hL:it≠X.env.locals)
  (h1:it∈X.ex∨X.s₀.heap.objs.size≤it) (h2:∀ x c,X.env.cells.lookup x=some c->c≠it) (h3:∀ p∈X.pn++pins,p.1≠it):Inv X pins σ H {s with heap:=h',toks:=t' }:=by
 have nit:∀ b u,H b=some u->b≠it:=fun b u e z=>by rw[z,hn] at e;cases e
 refine I.step (g':=s.gens) (d':=s.drawn) (ch:=[it]) (fun b hb=>?_) (fun b o _ _ hc e _=>k b o (fun z=>hc (by simp[z])) e) (fun b o _ _ hc e _=>⟨o.slots,k b o (fun z=>hc (by simp[z])) e⟩) (fun _ _ _ _ n=>n)
  (fun b o hc e=>⟨o,k b o (fun z=>hc (by simp[z])) e⟩) (fun _ _ e=>e) (fun _ _ _ e=>e) (fun b ps e=>⟨#[],by rw[e];simp⟩) (fun _ e=>e) (fun m hm=>?_) (fun b u e=>?_) I.bare
 ·have e:b=it:=by simpa using hb
  subst e
  exact⟨h1,hL,h2,h3⟩
 ·obtain⟨o,es,ep,ho,r⟩:=id hm
  exact ⟨o,es,ep,k _ o (Ne.symm hL) ho,r⟩
 ·refine (I.hok b u e).stay (fun c v hc q=>k c v ?_ q) (fun _ q=>q) fun _ _ q=>q
  rcases hc with z | z
  ·rw[z];exact nit b u e
  ·exact nit c _ z
theorem Inv.tok (I:Inv X pins σ H s)(t:Nat):Inv X pins σ H {s with toks:=t}:=I.un (h':=s.heap) (t':=t) Un.refl I.hok
theorem Inv.kept {t':Nat}(I:Inv X pins σ H s)(k:∀ b u,s.heap.get? b=some u->h'.get? b=some u):Inv X pins σ H {s with heap:=h',toks:=t' }:=I.un (Un.kept k) (I.hok.kept k)
theorem Inv.laid {a:Addr}{o:HO}{t':Nat}(I:Inv X pins σ H s)(k:∀ b u,s.heap.get? b=some u->h'.get? b=some u)(hp:s.heap.objs.size≤a)(new:c9 X.prog X.w (upd H a o) h' a o) :
 Inv X pins σ (upd H a o) {s with heap:=h',toks:=t' }:=I.un (Un.laid k hp (I.hok.fresh hp)) (I.hok.laid k hp new)
theorem Inv.write {x e:Addr}{o:HO}{t':Nat}(I:Inv X pins σ H s)(mu:m5 (H x))(he:e=x∨H e=some (.own x))(k:∀ b u,b≠e->s.heap.get? b=some u->h'.get? b=some u)(heo:∃ u,h'.get? e=some u)
 (new:c9 X.prog X.w (upd H x o) h' x o):Inv X pins σ (upd H x o) {s with heap:=h',toks:=t' }:=I.un (Un.write mu he k heo) (I.hok.write mu he k heo new)
theorem Inv.weak {σ':List (Option V)}(I:Inv X pins σ H s)(hl:σ'.length=σ.length)(w:∀ (i:Nat) v,σ'[i]?=some (some v)->σ[i]?=some (some v)):Inv X pins σ' H s:=
 ⟨I.ok,I.os,I.bare,I.base,let ⟨m,hn,hl'⟩:=I.loc;⟨m,hn,fun i x v e1 e2 e3=>hl' i x v e1 (w i v e2) e3⟩,I.cell,I.free,I.freeC,I.pin,I.hok,hl.trans I.len⟩
theorem Inv.pins_of {pins':List (Addr×Obj)}(I:Inv X pins σ H s)(h:∀ p∈pins',s.heap.get? p.1=some p.2∧H p.1=none∧p.1≠X.env.locals∧p.1∉X.fs∧∀ v,p.2.data≠.cell v):Inv X pins' σ H s:=
 ⟨I.ok,I.os,I.bare,I.base,I.loc,I.cell,I.free,I.freeC,fun p hp=>(List.mem_append.mp hp).elim (fun z=>I.pin p (List.mem_append_left _ z)) (h p),I.hok,I.len⟩
theorem rY {N:List Str}(hN:N.Nodup){i j:Nat}{x:Str}(a:N[i]?=some x)(b:N[j]?=some x):i=j:=by
 obtain⟨h1,e1⟩:=List.getElem?_eq_some_iff.mp a
 obtain⟨h2,e2⟩:=List.getElem?_eq_some_iff.mp b
 exact (List.getElem_inj hN).mp (e1.trans e2.symm)
theorem zW {M:Model}{A:Around}{E:Value->Shared->Prop}{i:Nat}{x:Str}{v:V}{u:Value}{Q:Unit->Shared->Prop}(I:Inv X pins σ H s)(hN:X.N.Nodup)(hi:X.N[i]?=some x)(hx:Loc X.env.scope x)(r:RelV v u)
  (h:∀ s',Inv X pins (σ.set i (some v)) H s'->(∃ a,Heap.SameBut a s.heap s'.heap∧(a=X.env.locals∨X.env.cells.lookup x=some a))->Q () s') (hf:X.fn x=true∨X.env.scope.names.lookup x=some .local:=by first | exact .inl rfl | exact .inr rfl | assumption):wpAny M A (storeName X.env x u) Q E s:=by
 obtain⟨m,hn,hl⟩:=id I.loc
 have hcls:(X.env.scope.kind==.class||(X.env.scope.kind==.module&&X.env.locals != X.env.globals))=false:=by rw[I.ok.kind];rfl
 have hiσ:i<σ.length:=by rw[I.len];exact (List.getElem?_eq_some_iff.mp hi).1
 have cne:=I.cne
 have tracked:∀ {a:Addr} {h':Heap},(∃ o,s.heap.get? a=some o∧H a=none)->Heap.SameBut a s.heap h'->cb X.prog X.w H h':=fun {a h'} ha hs b ob e=>by
  obtain⟨_,_,hfree⟩:=id ha
  refine (I.hok b ob e).stay (fun c w' hc q=>(hs.2 c ?_).trans q) (fun _ q=>q) fun _ _ q=>q
  rintro rfl
  rcases hc with rfl | hc
  ·rw[hfree] at e;cases e
  ·rw[hfree] at hc;cases hc
 rcases hx with hk | hk
 ·refine wpAny_storeName_local hk hn (fun h' hn' hs=>?_) hcls
  obtain⟨oL,_,_,hoL,_⟩:=id hn
  refine h _ ⟨I.ok,I.os,I.bare,⟨fun b o e n hb hx=>?_,fun b o e n hb hx=>?_,I.base.free,fun b o e hx=>?_,I.base.tups,I.base.frzs,I.base.tbls,I.base.tabs⟩,⟨_,hn',fun j y v' e1 e2 e3=>?_⟩,fun y c e=>?_,I.free,I.freeC,fun p hp=>?_,tracked ⟨oL,hoL,I.free⟩ hs,by simpa using I.len⟩ ⟨_,hs,.inl rfl⟩
  ·exact (hs.2 b (Nat.ne_of_lt (Nat.lt_of_lt_of_le (Heap.lt_size e) I.ok.above))).trans (I.base.keep b o e n hb hx)
  ·obtain⟨sl,e1⟩:=I.base.slot b o e n hb hx
   exact⟨sl,(hs.2 b (Nat.ne_of_lt (Nat.lt_of_lt_of_le (Heap.lt_size e) I.ok.above))).trans e1⟩
  ·obtain⟨o',e1⟩:=I.base.there b o e hx
   exact⟨o',(hs.2 b (Nat.ne_of_lt (Nat.lt_of_lt_of_le (Heap.lt_size e) I.ok.above))).trans e1⟩
  ·by_cases hj:j=i
   ·subst hj
    rw[hi] at e1;cases e1
    rw[List.getElem?_set_self hiσ] at e2
    cases e2
    exact⟨u,r,.inl ⟨hk,by simp⟩⟩
   ·rw[List.getElem?_set_ne (Ne.symm hj)] at e2
    obtain⟨u',r',q⟩:=hl j y v' e1 e2 e3
    refine⟨u',r',?_⟩
    rcases q with ⟨k,e⟩ | ⟨k,c,e,z⟩
    ·refine .inl ⟨k,?_⟩
     have:y≠x:=fun e=>hj (rY hN e1 (e▸hi))
     simp[this,e]
    ·exact .inr ⟨k,c,e,z.sameBut hs (cne y c e)⟩
  ·obtain⟨w',z⟩:=I.cell y c e
   exact⟨w',z.sameBut hs (cne y c e)⟩
  ·obtain⟨e,n,ne,nf,d⟩:=I.pin p hp
   exact⟨(hs.2 p.1 ne).trans e,n,ne,nf,d⟩
 ·have hfn:X.fn x=true:=by
   rcases hf with z | z
   ·exact z
   ·rw[z] at hk;cases hk
  obtain⟨c,hc⟩:=I.ok.has x (.inl hk)
  obtain⟨w',z⟩:=I.cell x c hc
  refine wpAny_storeName_cell I.ok.kind hk hc z (fun h' hc' hs=>?_)
  obtain⟨oc,hoc,hocd⟩:=id z
  refine h {s with heap:=h' } ⟨I.ok,I.os,I.bare,⟨fun b o e n hb hx=>?_,fun b o e n hb hx=>?_,I.base.free,fun b o e hx=>?_,I.base.tups,I.base.frzs,I.base.tbls,I.base.tabs⟩,⟨m,hn.sameBut hs (Ne.symm (cne x c hc)),fun j y v' e1 e2 e3=>?_⟩,fun y c' e=>?_,I.free,I.freeC,fun p hp=>?_,tracked ⟨oc,hoc,(I.freeC x c hc).resolve_right fun z=>by have z1:=z.1;rw[hfn] at z1;cases z1⟩ hs,by simpa using I.len⟩ ⟨c,hs,.inr hc⟩
  ·exact (hs.2 b (Nat.ne_of_lt (Nat.lt_of_lt_of_le (Heap.lt_size e) (I.ok.cab x c hfn hc)))).trans (I.base.keep b o e n hb hx)
  ·obtain⟨sl,e1⟩:=I.base.slot b o e n hb hx
   exact⟨sl,(hs.2 b (Nat.ne_of_lt (Nat.lt_of_lt_of_le (Heap.lt_size e) (I.ok.cab x c hfn hc)))).trans e1⟩
  ·obtain⟨o',e1⟩:=I.base.there b o e hx
   exact⟨o',(hs.2 b (Nat.ne_of_lt (Nat.lt_of_lt_of_le (Heap.lt_size e) (I.ok.cab x c hfn hc)))).trans e1⟩
  ·by_cases hj:j=i
   ·subst hj
    rw[hi] at e1;cases e1
    rw[List.getElem?_set_self hiσ] at e2
    cases e2
    exact⟨u,r,.inr ⟨.inl hk,c,hc,hc'⟩⟩
   ·rw[List.getElem?_set_ne (Ne.symm hj)] at e2
    obtain⟨u',r',q⟩:=hl j y v' e1 e2 e3
    refine⟨u',r',?_⟩
    rcases q with q | ⟨k,c',e,z'⟩
    ·exact .inl q
    ·refine .inr ⟨k,c',e,z'.sameBut hs ?_⟩
     rintro rfl
     exact hj (rY hN e1 (I.ok.inj _ _ _ e hc▸hi))
  ·by_cases hcc:c'=c
   ·subst hcc;exact⟨_,hc'⟩
   ·obtain⟨w2,z2⟩:=I.cell y c' e
    exact⟨w2,z2.sameBut hs hcc⟩
  ·obtain⟨e,n,ne,nf,d⟩:=I.pin p hp
   refine⟨(hs.2 p.1 ?_).trans e,n,ne,nf,d⟩
   intro q
   rw[q,hoc] at e
   have q':oc=p.2:=Option.some.inj e
   exact d w' (by rw[← q'];exact hocd)
theorem tm {M:Model}{A:Around}{E:Value->Shared->Prop}{i:Nat}{x:Str}{v:V}{u:Value}{Q:Unit->Shared->Prop}(I:Inv X pins σ H s)(hN:X.N.Nodup)(hi:X.N[i]?=some x)(hx:Loc X.env.scope x)(r:RelV v u)
  (h:∀ s',Inv X pins (σ.set i (some v)) H s'->Q () s') (hf:X.fn x=true∨X.env.scope.names.lookup x=some .local:=by first | exact .inl rfl | exact .inr rfl | assumption):wpAny M A (storeName X.env x u) Q E s:=
 zW I hN hi hx r (fun s' I' _=>h s' I') hf
theorem Inv.call' {s':Shared}{ch:List Addr}(I:Inv X pins σ H s)(ho:s'.os=s.os)(u:Un (cG X.stack) ch H H' s.heap s'.heap)(hok:cb X.prog X.w H' s'.heap)(hg:AllBare s'.gens)
  (hch:∀ b∈ch,(b∈X.ex∨X.s₀.heap.objs.size≤b)∧b≠X.env.locals∧(∀ x c,X.env.cells.lookup x=some c->c≠b)∧∀ p∈X.pn++pins,p.1≠b):Inv X pins σ H' s':=by
 obtain⟨h',g',d',t',o'⟩:=s'
 have e:o'=s.os:=ho
 subst e
 exact I.call (g':=g') (t':=t') (d':=d') u hok hg hch
end
abbrev XK:=Value->Option Addr->Hp->Prop
abbrev St:=List (Option V)
abbrev VK:=V->Hp->Prop
abbrev TE:=St->Hp->VK->Prop
abbrev TT:=St->Hp->(Bool->Hp->Prop)->Prop
abbrev TA:=St->Hp->(List V->Hp->Prop)->Prop
structure eV where
 nx:St->Hp->Prop
 rt:VK
 bk:St->Hp->Prop:=fun _ _=>False
 ct:St->Hp->Prop:=fun _ _=>False
abbrev TS:=eV->St->Hp->Prop
inductive EP (X:Cx)(pins:List (Addr×Obj))(σ:St)(Q:VK)(u:Value)(s':Shared):Prop
 | mk (v:V) (H':Hp) (I:Inv X pins σ H' s') (r:RelV v u) (q:Q v H'):EP X pins σ Q u s'
inductive TP (X:Cx)(pins:List (Addr×Obj))(σ:St)(Q:Bool->Hp->Prop)(b:Bool)(s':Shared):Prop
 | mk (H':Hp) (I:Inv X pins σ H' s') (q:Q b H'):TP X pins σ Q b s'
theorem TP.elim {X:Cx}{pins:List (Addr×Obj)}{σ:St}{Q:Bool->Hp->Prop}{b:Bool}{s':Shared}{P:Prop}(h:TP X pins σ Q b s')(k:∀ H',Inv X pins σ H' s'->Q b H'->P):P:=by cases h with | mk H' I q=>exact k H' I q
inductive AP (X:Cx)(pins:List (Addr×Obj))(σ:St)(Q:List V->Hp->Prop)(us:List Value)(s':Shared):Prop
 | mk (vs:List V) (H':Hp) (I:Inv X pins σ H' s') (r:aG vs us) (q:Q vs H'):AP X pins σ Q us s'
def SP (X:Cx)(pins:List (Addr×Obj))(D:eV)(f:Flow)(s':Shared):Prop:=
 match f with
 | .next=>∃ σ' H',Inv X pins σ' H' s'∧D.nx σ' H'
 | .brk=>∃ σ' H',Inv X pins σ' H' s'∧D.bk σ' H'
 | .cont=>∃ σ' H',Inv X pins σ' H' s'∧D.ct σ' H'
 | .ret u=>∃ v σ' H',Inv X pins σ' H' s'∧RelV v u∧D.rt v H'
def PE (X:Cx)(e:Expr)(t:TE):Prop:=
 ∀ (pins:List (Addr×Obj)) (s:Shared) (σ:St) (H:Hp) (Q:VK),Inv X pins σ H s->t σ H Q->wpAny (model X.prog X.w) X.A (eval e X.env) (EP X pins σ Q) X.xe s
def PT (X:Cx)(e:Expr)(t:TT):Prop:=
 ∀ (pins:List (Addr×Obj)) (s:Shared) (σ:St) (H:Hp) (Q:Bool->Hp->Prop),Inv X pins σ H s->t σ H Q->wpAny (model X.prog X.w) X.A (isTrue e X.env (eval e X.env)) (TP X pins σ Q) X.xe s
def PW (X:Cx)(e:Expr)(t:TT):Prop:=
 ∀ (whole:Sem Value) (pins:List (Addr×Obj)) (s:Shared) (σ:St) (H:Hp) (Q:Bool->Hp->Prop),Inv X pins σ H s->t σ H Q->wpAny (model X.prog X.w) X.A (isTrue e X.env whole) (TP X pins σ Q) X.xe s
theorem PW.pt {X:Cx}{e:Expr}{t:TT}(h:PW X e t):PT X e t:=h _
def PA (X:Cx)(es:List Expr)(t:TA):Prop:=
 ∀ (pos:Pos) (pins:List (Addr×Obj)) (s:Shared) (σ:St) (H:Hp) (Q:List V->Hp->Prop),Inv X pins σ H s->t σ H Q->wpAny (model X.prog X.w) X.A (spliced (backTo pos (starEach es X.env))) (AP X pins σ Q) X.xe s
def PS (X:Cx)(st:Stmt)(t:TS):Prop:=
 ∀ (pins:List (Addr×Obj)) (s:Shared) (σ:St) (H:Hp) (D:eV),Inv X pins σ H s->t D σ H->wpAny (model X.prog X.w) X.A (exec st X.env) (SP X pins D) X.xe s
def cT (X:Cx)(st:List Stmt)(t:TS):Prop:=
 ∀ (pins:List (Addr×Obj)) (s:Shared) (σ:St) (H:Hp) (D:eV),Inv X pins σ H s->t D σ H->wpAny (model X.prog X.w) X.A (execs st X.env) (SP X pins D) X.xe s
theorem aI {α:Type}{t:Sem α}{Q Q':α->Shared->Prop}{M:Model}{A:Around}{E:Value->Shared->Prop}{s:Shared}(h:wpAny M A t Q E s)(hQ:∀ a s,Q a s->Q' a s):wpAny M A t Q' E s:=wpAny_mono h hQ fun _ _ x=>x
end L2
namespace L2
section
variable {X:Cx}
def fG (i:Nat):TE:=fun σ H Q=>∃ v,σ[i]?=some (some v)∧Q v H
def tC (v:V):TE:=fun _ H Q=>Q v H
theorem GH {i:Nat}{x:Str}{pos:Pos}(hN:X.N[i]?=some x)(hv:j8 X.env.scope x)(hd:(x==("__debug__":Str))=false:=by decide)(hcd:(x==("__classdict__":Str))=false:=by decide):PE X (.Name x pos) (fG i):=by
 intro pins s σ H Q I h
 revert h
 refine fun zqq=>L2.iZ zqq fun v e h=>?_
 clear zqq
 obtain⟨m,hn,hl⟩:=I.loc
 obtain⟨u,r,l⟩:=hl i x v hN e hv
 have fin:EP X pins σ Q u s:=⟨v,H,I,r,h⟩
 rcases l with ⟨hk,hm⟩ | ⟨hk,c,hc,hcell⟩
 ·exact wpAny_Name (wpAny_loadName_local I.ok.kind hk hn hm fin) hd
 ·rcases hk with hk | hk
  ·exact wpAny_Name (wpAny_loadName_cell I.ok.kind hk hc hcell fin) hd
  ·exact wpAny_Name (wpAny_loadName_free I.ok.kind hk hc hcell fin hcd) hd
theorem Gx {i j pos}:PE X (.Constant (.int i) j pos) (tC (.int i)):=fun _ _ _ H _ I h=>wpAny_Constant_int ⟨.int i,H,I.tok _,⟨_,rfl⟩,h⟩
theorem Gv {b j pos}:PE X (.Constant (.bool b) j pos) (tC (.bl b)):=fun _ _ _ H _ I h=>Constant_bool ⟨.bl b,H,I,rfl,h⟩
theorem yL {j pos}:PE X (.Constant .none j pos) (tC .non):=fun _ _ _ H _ I h=>Constant_none ⟨.non,H,I,rfl,h⟩
theorem l7 {x j pos}:PE X (.Constant (.str x) j pos) (tC (.str x)):=fun _ _ _ H _ I h=>Calls.Constant_str ⟨.str x,H,I.tok _,⟨_,rfl⟩,h⟩
def Gl (X:Cx)(x:Str):Prop:=X.env.kindOf x=some .globalImplicit
theorem jx {E:Value->Shared->Prop}{pins:List (Addr×Obj)}{s:Shared}{σ:St}{H:Hp}{x:Str}{u:Value}{pos:Pos}{Q:Value->Shared->Prop}(I:Inv X pins σ H s)(hg:Gl X x)(hm:X.mg x=some u)(h:Q u s)
  (hd:(x==("__debug__":Str))=false:=by decide):wpAny (model X.prog X.w) X.A (eval (.Name x pos) X.env) Q E s:=
 Calls.Name_function_global I.ok.kind hg (Calls.loadGlobal_global (by rw[I.ok.glob];exact I.mod.glob.keeps I.bk) hm h) hd
theorem iX {E:Value->Shared->Prop}{pins:List (Addr×Obj)}{s:Shared}{σ:St}{H:Hp}{x:Str}{u:Value}{pos:Pos}{Q:Value->Shared->Prop}(I:Inv X pins σ H s)(hg:Gl X x)(hm:X.mg x=none)(hv:bootBuiltins x=some u)(h:Q u s)
  (hn:x≠"__name__":=by decide) (hd:(x==("__debug__":Str))=false:=by decide):wpAny (model X.prog X.w) X.A (eval (.Name x pos) X.env) Q E s:=by
 obtain⟨mb,h1,h2⟩:=I.mod.blt
 exact Calls.Name_function_global I.ok.kind hg (Calls.loadGlobal_builtin (by rw[I.ok.glob];exact I.mod.glob.keeps I.bk) hm (by rw[I.ok.blt];exact h1.keeps I.bk) ((h2 x hn).trans hv) h) hd
theorem yI {x:Str}{v:V}{u:Value}{pos:Pos}(hg:Gl X x)(hm:X.mg x=some u)(r:RelV v u)(hd:(x==("__debug__":Str))=false:=by decide):PE X (.Name x pos) (tC v):=
 fun _ _ _ H _ I h=>jx I hg hm ⟨v,H,I,r,h⟩ hd
theorem Gw {x:Str}{v:V}{u:Value}{pos:Pos}(hg:Gl X x)(hm:X.mg x=none)(hv:bootBuiltins x=some u)(r:RelV v u)(hn:x≠"__name__":=by decide)(hd:(x==("__debug__":Str))=false:=by decide):PE X (.Name x pos) (tC v):=
 fun _ _ _ H _ I h=>iX I hg hm hv ⟨v,H,I,r,h⟩ hn hd
def Jr (ta tb:TE)(k:Int->Int->Hp->Prop):St->Hp->Prop:=fun σ H=>ta σ H fun x H1=>tb σ H1 fun y H2=>∃ i j,x=.int i∧y=.int j∧k i j H2
variable {a b:Expr}{ta tb:TE}{pos:Pos}
def PC (X:Cx)(op:CmpOp)(a b:Expr)(t:TE):Prop:=
 ∀ (pins:List (Addr×Obj)) (s:Shared) (σ:St) (H:Hp) (Q:VK),Inv X pins σ H s->t σ H Q ->
  wpAny (model X.prog X.w) X.A (eval a X.env) (fun v s₁=>wpAny (model X.prog X.w) X.A (eval b X.env) (fun u s₂=>wpAny (model X.prog X.w) X.A (compareOp op v u) (EP X pins σ Q) X.xe s₂) X.xe s₁) X.xe s
def kL (p:Int->Int->Bool)(ta tb:TE):TE:=fun σ H Q=>Jr ta tb (fun i j H2=>Q (.bl (p i j)) H2) σ H
abbrev K5:TE->TE->TE:=kL fun i j=>decide (i<j)
abbrev K4:TE->TE->TE:=kL fun i j=>decide (i≤j)
abbrev K3:TE->TE->TE:=kL fun i j=>decide (j<i)
abbrev K2:TE->TE->TE:=kL fun i j=>decide (j≤i)
abbrev K1:TE->TE->TE:=kL fun i j=>decide (i=j)
abbrev K6:TE->TE->TE:=kL fun i j=>!decide (i=j)
def tB (t:TE):TT:=fun σ H Q=>t σ H fun x H1=>∃ c,x=.bl c∧Q c H1
theorem Hl {e:Expr}{t:TE}(h:PE X e t)(he:∀ whole,isTrue e X.env whole=(do let v ← whole;standAt e.pos;holding [v] (truthy v)):=by intro _;rfl):PT X e (tB t):=by
 intro pins s σ H Q I hw
 refine isTrue_plain (aI (h pins s σ H _ I hw) fun v s1 ⟨x,H1,I1,r1,q1⟩=>?_) (he _)
 revert q1
 refine fun zqq=>L2.iZ zqq fun d zq1 q=>?_
 clear zqq
 subst zq1
 cases r1
 exact wpAny_truthy_bool ⟨H1,I1,q⟩
variable {tA tB':TT}{rest:List Expr}
def Ju (t u:TT):TT:=fun σ H Q=>t σ H fun c H1=>if c=true then u σ H1 Q else Q false H1
def JN (t u:TT):TT:=fun σ H Q=>t σ H fun c H1=>if c=true then Q true H1 else u σ H1 Q
def JL (t:TT):TT:=fun σ H Q=>t σ H fun c H1=>Q (!c) H1
theorem Hq (ha:PT X a tA):PW X (.BoolOp .And [a] pos) tA:=by
 intro wh pins s σ H Q I h
 refine isTrue_and (aI (ha pins s σ H Q I h) fun c s1 e=>?_)
 cases c with
 | true=>exact isTrue_and_nil e
 | false=>exact e
theorem Hs (ha:PT X a tA):PW X (.BoolOp .Or [a] pos) tA:=by
 intro wh pins s σ H Q I h
 refine isTrue_or (aI (ha pins s σ H Q I h) fun c s1 e=>?_)
 cases c with
 | false=>exact isTrue_or_nil e
 | true=>exact e
theorem Ho (ha:PT X a tA)(hb:PW X (.BoolOp .And (b::rest) pos) tB'):PW X (.BoolOp .And (a::b::rest) pos) (Ju tA tB'):=by
 intro wh pins s σ H Q I h
 refine isTrue_and (aI (ha pins s σ H _ I h) fun c s1 zpat=>?_)
 obtain⟨H1,I1,q1⟩:=zpat
 cases c with
 | true=>exact hb wh pins s1 σ H1 Q I1 q1
 | false=>exact⟨H1,I1,q1⟩
theorem Hr (ha:PT X a tA)(hb:PW X (.BoolOp .Or (b::rest) pos) tB'):PW X (.BoolOp .Or (a::b::rest) pos) (JN tA tB'):=by
 intro wh pins s σ H Q I h
 refine isTrue_or (aI (ha pins s σ H _ I h) fun c s1 zpat=>?_)
 obtain⟨H1,I1,q1⟩:=zpat
 cases c with
 | true=>exact⟨H1,I1,q1⟩
 | false=>exact hb wh pins s1 σ H1 Q I1 q1
theorem Hk (ha:PT X a tA):PT X (.UnaryOp .Not a pos) (JL tA):=by
 intro pins s σ H Q I h
 exact isTrue_not (wpAny_mono (ha pins s σ H (fun c H1=>Q (!c) H1) I h) (fun c s' q=>q.elim fun H' I' q'=>⟨H',I',q'⟩) fun _ _ z=>z)
def Jv (ta tb:TE):TE:=fun σ H Q=>ta σ H fun x H1=>∃ c,x=.bl c∧if c=true then tb σ H1 Q else Q (.bl false) H1
def JO (ta tb:TE):TE:=fun σ H Q=>ta σ H fun x H1=>∃ c,x=.bl c∧if c=true then Q (.bl true) H1 else tb σ H1 Q
theorem GB {op}{t:TE}(h:PE X a t):PE X (.BoolOp op [a] pos) t:=fun pins s σ H Q I hw=>BoolOp_one (h pins s σ H Q I hw)
theorem Gu (ha:PE X a ta)(hb:PE X (.BoolOp .And (b::rest) pos) tb):PE X (.BoolOp .And (a::b::rest) pos) (Jv ta tb):=by
 intro pins s σ H Q I h
 refine BoolOp_and (aI (ha pins s σ H _ I h) fun v s1 zpat=>?_)
 obtain⟨x,H1,I1,r1,q1⟩:=zpat
 revert q1
 refine fun zqq=>L2.iZ zqq fun c zq1 q1=>?_
 clear zqq
 subst zq1
 cases r1
 refine wpAny_truthy_bool ?_
 cases c with
 | true=>exact hb pins s1 σ H1 Q I1 q1
 | false=>exact⟨.bl false,H1,I1,rfl,q1⟩
theorem GC (ha:PE X a ta)(hb:PE X (.BoolOp .Or (b::rest) pos) tb):PE X (.BoolOp .Or (a::b::rest) pos) (JO ta tb):=by
 intro pins s σ H Q I h
 refine BoolOp_or (aI (ha pins s σ H _ I h) fun v s1 zpat=>?_)
 obtain⟨x,H1,I1,r1,q1⟩:=zpat
 revert q1
 refine fun zqq=>L2.iZ zqq fun c zq1 q1=>?_
 clear zqq
 subst zq1
 cases r1
 refine wpAny_truthy_bool ?_
 cases c with
 | false=>exact hb pins s1 σ H1 Q I1 q1
 | true=>exact⟨.bl true,H1,I1,rfl,q1⟩
end
end L2
namespace L2
def aN (K:PySem.W.Frag)(H:Hp)(a:Addr)(xs:List V):Prop:=
 Rd H a (.lst xs) ∨
  ∃ (o:Obj) (its:Array Value) (n:Nat),K.lookup a=some o∧o.cls=.type "list"∧o.dict=none∧o.data=.seq its n∧its.size≤sizeLine∧aG xs its.toList
def cn (K:PySem.W.Frag)(H:Hp)(a:Addr)(xs:List V):Prop:=
 Rd H a (.tup xs) ∨
  ∃ (o:Obj) (its:Array Value) (n:Nat),K.lookup a=some o∧o.cls=.type "tuple"∧o.data=.seq its n∧its.size≤sizeLine∧aG xs its.toList
def A_:Value->Option V
 | .none=>some .non
 | .bool b=>some (.bl b)
 | .int i _=>some (.int i)
 | .str x _=>some (.str x)
 | .bytes b _=>some (.byt b)
 | .float b _=>some (.flt b)
 | .ref a=>some (.ref a)
 | .type n=>some (.ty n)
 | _=>none
theorem RelV.abs {x:V}{u:Value}(r:RelV x u):A_ u=some x:=by
 cases x with
 | non=>cases r;rfl
 | bl _=>cases r;rfl
 | int _=>obtain⟨t,rfl⟩:=r;rfl
 | str _=>obtain⟨t,rfl⟩:=r;rfl
 | byt _=>obtain⟨t,rfl⟩:=r;rfl
 | flt _=>obtain⟨t,rfl⟩:=r;rfl
 | ref _=>cases r;rfl
 | ty _=>cases r;rfl
theorem RelV.inj {x y:V}{u:Value}(r:RelV x u)(q:RelV y u):x=y:=Option.some.inj (r.abs.symm.trans q.abs)
theorem aG.inj {xs ys:List V}{us:List Value}(h:aG xs us)(h':aG ys us):xs=ys:=by
 induction h generalizing ys with
 | nil=>cases h';rfl
 | cons r t ih=>
  cases h' with
  | cons r' t'=>rw[r.inj r',ih t']
section
variable {X:Cx}{pins:List (Addr×Obj)}{σ:St}{H:Hp}{s:Shared}{a:Addr}{xs ys:List V}
theorem aN.of {K:PySem.W.Frag}(h:H a=some (.lst xs)):aN K H a xs:=.inl (.inl h)
theorem cn.of {K:PySem.W.Frag}(h:H a=some (.tup xs)):cn K H a xs:=.inl (.inl h)
theorem Inv.list (I:Inv X pins σ H s)(h:aN X.K H a xs):∃ its:List Value,aG xs its∧PlainL s.heap a its.toArray∧xs.length≤sizeLine:=by
 rcases h with h | ⟨o,its,n,hk,hc,hd,hs,hz,r⟩
 ·obtain⟨z,its,n,r,e⟩:=h.ok I.hok
  exact⟨its,r,⟨_,n,e,rfl,rfl,rfl⟩,z⟩
 ·refine⟨its.toList,r,⟨o,n,I.kIn a o hk,hc,hd,by simpa using hs⟩,?_⟩
  have e:=r.length
  simp only[Array.length_toList] at e
  omega
theorem Inv.tuple (I:Inv X pins σ H s)(h:cn X.K H a xs):∃ its:List Value,aG xs its∧IsTup s.heap a its.toArray∧xs.length≤sizeLine:=by
 rcases h with h | ⟨o,its,n,hk,hc,hs,hz,r⟩
 ·obtain⟨z,its,r,p⟩:=h.ok I.hok
  exact⟨its,r,p,z⟩
 ·refine⟨its.toList,r,⟨o,I.kIn a o hk,hc,n,by simpa using hs⟩,?_⟩
  have e:=r.length
  simp only[Array.length_toList] at e
  omega
theorem Inv.list_inj (I:Inv X pins σ H s)(h:aN X.K H a xs)(h':aN X.K H a ys):xs=ys:=by
 obtain⟨its,r,⟨o,n,e,_,_,d⟩,_⟩:=I.list h
 obtain⟨its',r',⟨o',n',e',_,_,d'⟩,_⟩:=I.list h'
 rw[e] at e';cases e'
 rw[d] at d'
 injection d' with d1 _
 have:its=its':=by simpa using congrArg Array.toList d1
 subst this
 exact r.inj r'
end
abbrev Cx.wish (X:Cx)(E:Value->Shared->Prop):Cx:={X with xe:=E}
abbrev Cx.nox (X:Cx):Cx:=X.wish fun _ _=>False
theorem Cx.Ok.wish {X:Cx}(ok:X.Ok)(E:Value->Shared->Prop):(X.wish E).Ok:=
 ⟨ok.mod,ok.kind,ok.glob,ok.blt,ok.above,ok.inj,ok.has,ok.cab,ok.hd,ok.frames,ok.stk,ok.exf,ok.bs,ok.bsz,ok.noex,ok.exfs,ok.funs,ok.frf,ok.tabs⟩
theorem Cx.Ok.unwish {X:Cx}{E:Value->Shared->Prop}(ok:(X.wish E).Ok):X.Ok:=
 ⟨ok.mod,ok.kind,ok.glob,ok.blt,ok.above,ok.inj,ok.has,ok.cab,ok.hd,ok.frames,ok.stk,ok.exf,ok.bs,ok.bsz,ok.noex,ok.exfs,ok.funs,ok.frf,ok.tabs⟩
section
variable {X:Cx}{pins:List (Addr×Obj)}{σ:St}{H:Hp}{s:Shared}{E:Value->Shared->Prop}
theorem Inv.wish (I:Inv X pins σ H s)(E:Value->Shared->Prop):Inv (X.wish E) pins σ H s:=⟨I.ok.wish E,I.os,I.bare,I.base,I.loc,I.cell,I.free,I.freeC,I.pin,I.hok,I.len⟩
theorem Inv.unwish (I:Inv (X.wish E) pins σ H s):Inv X pins σ H s:=⟨I.ok.unwish,I.os,I.bare,I.base,I.loc,I.cell,I.free,I.freeC,I.pin,I.hok,I.len⟩
theorem SP.unwish {D:eV}{f:Flow}{s':Shared}(h:SP (X.wish E) pins D f s'):SP X pins D f s':=by
 cases f with
 | next=>obtain⟨σ',H',I,q⟩:=h;exact⟨σ',H',I.unwish,q⟩
 | brk=>obtain⟨σ',H',I,q⟩:=h;exact⟨σ',H',I.unwish,q⟩
 | cont=>obtain⟨σ',H',I,q⟩:=h;exact⟨σ',H',I.unwish,q⟩
 | ret u=>obtain⟨v,σ',H',I,r,q⟩:=h;exact⟨v,σ',H',I.unwish,r,q⟩
theorem PE.nox {e:Expr}{t:TE}(h:PE X.nox e t):PE X e t:=fun pins s σ H Q I hw=>
 wpAny_mono (h pins s σ H Q (I.wish _) hw) (fun _ _ ⟨v,H',I',r,q⟩=>⟨v,H',I'.unwish,r,q⟩) fun _ _ z=>False.elim z
theorem PT.nox {e:Expr}{t:TT}(h:PT X.nox e t):PT X e t:=fun pins s σ H Q I hw=>
 wpAny_mono (h pins s σ H Q (I.wish _) hw) (fun _ _ ⟨H',I',q⟩=>⟨H',I'.unwish,q⟩) fun _ _ z=>False.elim z
theorem cT.nox {st:List Stmt}{t:TS}(h:cT X.nox st t):cT X st t:=fun pins s σ H D I hw=>
 wpAny_mono (h pins s σ H D (I.wish _) hw) (fun _ _ q=>q.unwish) fun _ _ z=>False.elim z
end
section
variable {X:Cx}{st:Stmt}{rest:List Stmt}{t u:TS}{e:Expr}{te:TE}{pos:Pos}
def JJ:TS:=fun D σ H=>D.nx σ H
def JT (t u:TS):TS:=fun D σ H=>t {D with nx:=u D} σ H
theorem yX:cT X [] JJ:=fun _ _ σ H _ I h=>wpAny_execs_nil ⟨σ,H,I,h⟩
theorem si (h1:PS X st t)(h2:cT X rest u):cT X (st::rest) (JT t u):=by
 intro pins s σ H D I h
 refine wpAny_execs_cons (aI (h1 pins s σ H {D with nx:=u D} I h) fun f s1 q=>?_)
 cases f with
 | next=>
  revert q
  refine fun zqq=>L2.rZ zqq fun σ' H' I' q=>?_
  clear zqq
  exact h2 pins s1 σ' H' D I' q
 | ret v=>exact q
 | brk=>exact q
 | cont=>exact q
theorem yY (h1:PS X st t):cT X [st] t:=by
 intro pins s σ H D I h
 refine wpAny_execs_cons (aI (h1 pins s σ H D I h) fun f s1 q=>?_)
 cases f with
 | next=>exact wpAny_execs_nil q
 | ret v=>exact q
 | brk=>exact q
 | cont=>exact q
theorem Inv.quiet {pins:List (Addr×Obj)}{σ:St}{H:Hp}{s:Shared}(I:Inv X pins σ H s):interactive X.env=false:=by simp[interactive,I.ok.kind]
def JA (te:TE):TS:=fun D σ H=>te σ H fun _ H1=>D.nx σ H1
theorem sg (he:PE X e te)(hs:swapsWith e none pos.line X.env=pure false:=by rfl):PS X (.Expr e pos) (JA te):=by
 intro pins s σ H D I h
 exact wpAny_Expr_any (aI (he pins s σ H _ I h) fun v s1 ⟨x,H1,I1,r1,q1⟩=>⟨σ,H1,I1,q1⟩) I.quiet hs
def JR (te:TE):TS:=fun D σ H=>te σ H D.rt
theorem yW (he:PE X e te):PS X (.Return (some e) pos) (JR te):=by
 intro pins s σ H D I h
 exact wpAny_Return_some (aI (he pins s σ H _ I h) fun v s1 ⟨x,H1,I1,r1,q1⟩=>⟨x,σ,H1,I1,r1,q1⟩)
def JF (c:TT)(t u:TS):TS:=fun D σ H=>c σ H fun b H1=>if b=true then t D σ H1 else u D σ H1
theorem yV {c:Expr}{a b:List Stmt}{tc:TT}(hc:PT X c tc)(ha:cT X a t)(hb:cT X b u):PS X (.If c a b pos) (JF tc t u):=by
 intro pins s σ H D I h
 refine wpAny_If (aI (hc pins s σ H _ I h) fun d s1 zpat=>?_)
 obtain⟨H1,I1,q1⟩:=zpat
 cases d with
 | true=>exact ha pins s1 σ H1 D I1 q1
 | false=>exact hb pins s1 σ H1 D I1 q1
end
abbrev TG:=V->St->Hp->(St->Hp->Prop)->Prop
abbrev fP:=List V->St->Hp->(St->Hp->Prop)->Prop
def PG (X:Cx)(target:Expr)(t:TG):Prop:=
 ∀ (pins:List (Addr×Obj)) (s:Shared) (σ:St) (H:Hp) (v:V) (u:Value) (Q:St->Hp->Prop),Inv X pins σ H s->RelV v u->t v σ H Q ->
  wpAny (model X.prog X.w) X.A (assign target X.env u) (fun _ s'=>∃ σ' H',Inv X pins σ' H' s'∧Q σ' H') X.xe s
def gQ (X:Cx)(ts:List Expr)(t:fP):Prop:=
 ∀ (pins:List (Addr×Obj)) (s:Shared) (σ:St) (H:Hp) (vs:List V) (us:List Value) (Q:St->Hp->Prop),Inv X pins σ H s->aG vs us->t vs σ H Q ->
  wpAny (model X.prog X.w) X.A (assignInOrder ((assignEach ts X.env).map (·.2)) us) (fun _ s'=>∃ σ' H',Inv X pins σ' H' s'∧Q σ' H') X.xe s
abbrev KS:=V->V->V->Hp->(Hp->Prop)->Prop
abbrev KR:=V->V->Hp->VK->Prop
section
variable {X:Cx}{pos:Pos}
def lK (i:Nat):TG:=fun v σ H Q=>Q (σ.set i (some v)) H
theorem GJ {i:Nat}{x:Str}(hN:X.N.Nodup)(hi:X.N[i]?=some x)(hx:Loc X.env.scope x)(hf:X.fn x=true∨X.env.scope.names.lookup x=some .local:=by first | exact .inl rfl | exact .inr rfl | assumption):PG X (.Name x pos) (lK i):=by
 intro pins s σ H v u Q I r h
 exact wpAny_assign_Name (tm I hN hi hx r (fun s' I'=>⟨_,H,I',h⟩) hf)
def Dd:fP:=fun vs σ H Q=>vs=[]∧Q σ H
def C_ (t:TG)(u:fP):fP:=fun vs σ H Q=>∃ v r,vs=v::r∧t v σ H fun σ' H'=>u r σ' H' Q
theorem GN:gQ X [] Dd:=by
 intro pins s σ H vs us Q I r h
 revert h
 refine fun zqq=>L2.kv zqq fun e h=>?_
 clear zqq
 subst e
 cases r
 exact assignInOrder_nil ⟨σ,H,I,h⟩
theorem GL {e:Expr}{es:List Expr}{t:TG}{u:fP}(h1:PG X e t)(h2:gQ X es u)
  (hs:(assignEach (e::es) X.env).map (·.2)=assign e X.env::(assignEach es X.env).map (·.2):=by rfl):gQ X (e::es) (C_ t u):=by
 intro pins s σ H vs us Q I r h
 revert h
 refine fun zqq=>L2.rZ zqq fun v vr e1 h=>?_
 clear zqq
 subst e1
 cases r with
 | cons r rr=>
  rw[hs]
  refine assignInOrder_cons (aI (h1 pins s σ H _ _ _ I r h) fun _ s1 zpat=>?_)
  obtain⟨σ1,H1,I1,q1⟩:=zpat
  exact h2 pins s1 σ1 H1 _ _ Q I1 rr q1
def Df (K:PySem.W.Frag)(n:Nat)(t:fP):TG:=fun v σ H Q=>∃ a xs,v=.ref a∧cn K H a xs∧xs.length=n∧t xs σ H Q
theorem GK {es:List Expr}{k:Nat}{t:fP}{n:Nat}(hc:X.calm=true)(h:gQ X es t)
  (hn:(assignEach es X.env).length=n:=by rfl) (hst:(assignEach es X.env).findIdx? (·.1)=none:=by rfl):PG X (.Tuple es k pos) (Df X.K n t):=by
 intro pins s σ H v u Q I r hw
 revert hw
 refine fun zqq=>L2.jB zqq fun a xs e1 hq hl hw=>?_
 clear zqq
 subst e1
 cases r
 obtain⟨its,rv,ht,hz⟩:=I.tuple hq
 refine assign_Tuple_tuple (I.ok.hd hc) ht (by simp[hn,← hl,rv.length]) hst fun h' hx=>?_
 have I1:Inv X pins σ H {s with heap:=h' }:=I.kept (t':=s.toks) fun b o e=>hx b o (Nat.ne_of_lt (Heap.lt_size e)) e
 exact h pins _ σ H xs _ Q I1 (by simpa using rv) hw
def ml (te:TE)(g:TG):TS:=fun D σ H=>te σ H fun x H1=>g x σ H1 D.nx
theorem Hc {tg e:Expr}{te:TE}{g:TG}(he:PE X e te)(hg:PG X tg g)(hs:swapsWithSole [tg] e pos.line X.env=pure false:=by rfl)(hw:swappedStores [tg] e X.env=pure none:=by rfl)
  (h1:(assignEach [tg] X.env).map (·.2)=[assign tg X.env]:=by rfl):PS X (.Assign [tg] e pos) (ml te g):=by
 intro pins s σ H D I h
 refine wpAny_Assign_stores (aI (he pins s σ H _ I h) fun v s1 ⟨x,H1,I1,r1,q1⟩=>?_) hs hw
 rw[h1]
 exact aI (hg pins s1 σ H1 x v _ I1 r1 q1) fun _ s2 q=>q
theorem sh {i:Nat}{x:Str}{e:Expr}{te:TE}{pos':Pos}(hN:X.N.Nodup)(hi:X.N[i]?=some x)(hx:Loc X.env.scope x)(he:PE X e te)(hs:swapsWith e (some (.Name x pos')) pos.line X.env=pure false:=by rfl)(hf:X.fn x=true∨X.env.scope.names.lookup x=some .local:=by first | exact .inl rfl | exact .inr rfl | assumption) :
  PS X (.Assign [.Name x pos'] e pos) (ml te (lK i)):=by
 intro pins s σ H D I h
 refine wpAny_Assign_Name (aI (he pins s σ H _ I h) fun v s1 ⟨y,H1,I1,r1,q1⟩=>?_) hs
 exact tm I1 hN hi hx r1 (fun s2 I2=>⟨_,H1,I2,q1⟩) hf
end
section
variable {X:Cx}{pos:Pos}
def JY (c:TT)(tb:TS):TS:=fun D σ H=>∃ W:Nat->St->Hp->Prop,(∃ m,W m σ H)∧∀ m σ H,W m σ H ->
 c σ H fun b H1=>if b=true then ∃ N:St->Hp->Prop,(∀ σ' H',N σ' H'->∃ m',m'<m∧W m' σ' H')∧tb {D with nx:=N,ct:=N,bk:=D.nx} σ H1 else D.nx σ H1
theorem Hh {c:Expr}{body:List Stmt}{tc:TT}{tb:TS}(hp:PassesOwn (model X.prog X.w) X.A X.env X.xe)(hc:PT X c tc)(hb:cT X body tb):PS X (.While c body [] pos) (JY tc tb):=by
 intro pins s σ H D I h
 obtain⟨W,⟨m0,w0⟩,turn⟩:=h
 refine wpAny_While (codeAny_whileLoop (fun n s'=>∃ σ' H',Inv X pins σ' H' s'∧W n σ' H') ?_ m0 ⟨σ,H,I,w0⟩)
 rintro n s1 ⟨σ1,H1,I1,w1⟩
 refine wpAny_passesOwn hp (aI (hc pins s1 σ1 H1 _ I1 (turn n σ1 H1 w1)) fun b s2 zpat=>?_)
 obtain⟨H2,I2,q2⟩:=zpat
 cases b with
 | true=>
  revert q2
  refine fun zqq=>L2.iZ zqq fun N hN q2=>?_
  clear zqq
  rw[if_pos rfl]
  refine wpAny_passesOwn hp (aI (hb pins s2 σ1 H2 _ I2 q2) fun f s3 q3=>?_)
  cases f with
  | next=>
   obtain⟨σ3,H3,I3,n3⟩:=id q3
   obtain⟨m',hm,w3⟩:=hN σ3 H3 n3
   exact ⟨m',hm,σ3,H3,I3,w3⟩
  | cont=>
   obtain⟨σ3,H3,I3,n3⟩:=id q3
   obtain⟨m',hm,w3⟩:=hN σ3 H3 n3
   exact ⟨m',hm,σ3,H3,I3,w3⟩
  | brk=>exact q3
  | ret v=>exact q3
 | false=>
  rw[if_neg Bool.false_ne_true]
  exact wpAny_execs_nil ⟨σ1,H2,I2,q2⟩
end
structure It where
 go:Nat->Hp->Prop
 yld:Nat->Hp->V->Hp->Prop
 stop:Nat->Hp->Prop
def b_ (X:Cx)(pins:List (Addr×Obj))(H:Hp)(b:Addr):Prop:=
 H b=none∧b≠X.env.locals∧b∉X.fs∧(b∈X.ex∨X.s₀.heap.objs.size≤b)∧(∀ x c,X.env.cells.lookup x=some c->c≠b)∧∀ p∈X.pn++pins,p.1≠b
theorem Inv.fpOk {X:Cx}{pins:List (Addr×Obj)}{σ:St}{H H':Hp}{s:Shared}{b:Addr}(I:Inv X pins σ H s)(hb:s.heap.objs.size≤b)(hn:H' b=none):b_ X pins H' b:=by
 refine⟨hn,Nat.ne_of_gt (Nat.lt_of_lt_of_le I.lt hb),I.nofs hb,.inr (Nat.le_trans I.sz hb),fun x c e z=>?_,fun p hp z=>?_⟩
 ·obtain⟨v,q⟩:=I.cell x c e
  exact absurd (Nat.lt_of_lt_of_le q.lt (by rw[z];exact hb)) (Nat.lt_irrefl _)
 ·exact absurd (Nat.lt_of_lt_of_le (Heap.lt_size (I.pin p hp).1) (by rw[z];exact hb)) (Nat.lt_irrefl _)
structure j7 (P:Program)(w:World)(K:PySem.W.Frag)(tg:Expr)(J:It)(fp:List Addr)(it:Addr)(tn:Nat->Heap->Prop):Prop where
 mem:it∈fp
 obj:∀ i h,tn i h->∀ b∈fp,∃ o,h.get? b=some o∧∀ v,o.data≠.cell v
 keep:∀ i h h',tn i h->(∀ b∈fp,∀ o,h.get? b=some o->h'.get? b=some o)->tn i h'
 item:∀ (X:Cx),X.prog=P->X.w=w->X.K=K->X.calm=true->∀ (i:Nat) (pins:List (Addr×Obj)) (s:Shared) (σ:St) (H:Hp) (E:Value->Shared->Prop),Inv X pins σ H s->(∀ b∈fp,b_ X pins H b)->tn i s.heap->J.go i H ->
  wpAny (model P w) X.A (pyNext (.ref it)) (fun r s1=>∃ u,r=some u ∧
   wpAny (model P w) X.A (letOwnedTupleGo tg (.ref it) u) (fun _ s2=>∃ x H',Inv X pins σ H' s2∧RelV x u∧J.yld i H x H'∧tn (i+1) s2.heap∧∀ b∈fp,H' b=none) E s1) E s
 done:∀ (X:Cx),X.prog=P->X.w=w->X.K=K->X.calm=true->∀ (i:Nat) (pins:List (Addr×Obj)) (s:Shared) (σ:St) (H:Hp) (E:Value->Shared->Prop),Inv X pins σ H s->(∀ b∈fp,b_ X pins H b)->tn i s.heap->J.stop i H ->
  wpAny (model P w) X.A (pyNext (.ref it)) (fun r s1=>r=none∧Inv X pins σ H s1) E s
 self:∀ (A:Around) (i:Nat) (s:Shared) (Q:Value->Shared->Prop) (E:Value->Shared->Prop),tn i s.heap->Q (.ref it) s->wpAny (model P w) A (pyIter (.ref it)) Q E s
abbrev TI:=St->Hp->(It->Hp->Prop)->Prop
def uI (X:Cx)(pins:List (Addr×Obj))(σ:St)(tg:Expr)(R:It->Hp->Prop)(itv:Value)(s2:Shared):Prop:=
 ∃ (it:Addr) (fp:List Addr) (tn:Nat->Heap->Prop) (J:It) (H':Hp),itv=.ref it∧Inv X pins σ H' s2∧j7 X.prog X.w X.K tg J fp it tn∧tn 0 s2.heap∧(∀ b∈fp,b_ X pins H' b)∧R J H'
def PI (X:Cx)(tg iter:Expr)(wi:TI):Prop:=
 ∀ (pins:List (Addr×Obj)) (s:Shared) (σ:St) (H:Hp) (R:It->Hp->Prop),Inv X pins σ H s->wi σ H R ->
  wpAny (model X.prog X.w) X.A (eval iter X.env) (fun v s1=>wpAny (model X.prog X.w) X.A (pyIter v) (uI X pins σ tg R) X.xe s1) X.xe s
theorem wI {M:Model}{A:Around}{E:Value->Shared->Prop}{s:Shared}{tg:Expr}{it:Addr}{u:Value}{o:Obj}{n:String}{vs:Array Value}{Q:Unit->Shared->Prop}(ho:s.heap.get? it=some o)(hc:o.cls=.type n)(hd:o.data=.fields vs)
  (hn:["enumerate","zip","dict_itemiterator","dict_reverseitemiterator","odict_iterator","itertools.zip_longest","itertools.pairwise"].contains n=false) (hQ:Q () s):wpAny M A (letOwnedTupleGo tg (.ref it) u) Q E s:=by
 unfold letOwnedTupleGo
 cases tg <;> first
  | exact wpAny_pure hQ
  | (cases u <;> first
   | exact wpAny_pure hQ
   | (
    refine wpAny_bind (wpAny_load ho ?_)
    rw[hc,hd]
    show wpAny M A (if (["enumerate","zip","dict_itemiterator","dict_reverseitemiterator","odict_iterator","itertools.zip_longest","itertools.pairwise"].contains n&&vs[0]?==some (rawInt _))=true then _ else _) Q E s
    rw[if_neg (by intro h;rw[hn,Bool.false_and] at h;cases h)]
    exact wpAny_pure hQ))
def qc (K:PySem.W.Frag)(a:Addr):It:=
 ⟨fun i H=>∃ xs x,aN K H a xs∧xs[i]?=some x,fun i H x H'=>H'=H∧∀ xs,aN K H a xs->xs[i]?=some x,fun i H=>∃ xs,aN K H a xs∧xs.length≤i⟩
def mR (lo:Int)(n:Nat):It:=⟨fun i _=>i<n,fun i H x H'=>H'=H∧x=.int (lo+i),fun i _=>n≤i⟩
theorem J6 {P:Program}{w:World}{K:PySem.W.Frag}{tg:Expr}(a it:Addr):j7 P w K tg (qc K a) [it] it (fun i h=>h.IsListIter it a i) where
 mem:=by simp
 obj:=fun i h st b hb=>by
  have e:b=it:=by simpa using hb
  subst e
  obtain⟨o,e,c,d⟩:=id st
  exact⟨o,e,fun v z=>by rw[d] at z;cases z⟩
 keep:=fun i h h' st k=>st.at fun o e=>k it (by simp) o e
 item:=by
  intro X hP hw hK hc i pins s σ H E I hf st hg
  subst hP hw hK
  obtain⟨xs,x,hq,hx⟩:=id hg
  obtain⟨its,rv,p,hz⟩:=I.list hq
  obtain⟨u,hu,ru⟩:=rv.get hx
  obtain⟨f0,f1,f2,f3,f4,f5⟩:=hf it (by simp)
  refine wpAny_pyNext_list_item st p.isList (x:=u) (by simpa using hu) fun h' st' sb=>?_
  have I1:Inv X pins σ H {s with heap:=h' }:=I.turned (t':=s.toks) (fun b o hb e=>(sb.2 b hb).trans e) f0 f1 f3 f4 f5
  obtain⟨o,e,c,d⟩:=id st'
  exact⟨u,rfl,wI (s:={s with heap:=h' }) e c d (by decide) ⟨x,H,I1,ru,⟨rfl,fun ys hy=>by rw[I.list_inj hy hq];exact hx⟩,st',fun b hb=>(hf b hb).1⟩⟩
 done:=by
  intro X hP hw hK hc i pins s σ H E I hf st hg
  subst hP hw hK
  obtain⟨xs,hq,hx⟩:=id hg
  obtain⟨its,rv,p,hz⟩:=I.list hq
  obtain⟨f0,f1,f2,f3,f4,f5⟩:=hf it (by simp)
  have hl:=rv.length
  exact wpAny_pyNext_list_end (I.ok.hd hc) st p.isList (by simp;omega) fun h' eb=>⟨rfl,I.turned (t':=s.toks) (fun b o hb e=>eb b o hb e) f0 f1 f3 f4 f5⟩
 self:=fun _ _ _ _ _ st h=>wpAny_pyIter_listiter st h
theorem J7 {P:Program}{w:World}{K:PySem.W.Frag}{tg:Expr}(it:Addr)(lo:Int)(n:Nat):j7 P w K tg (mR lo n) [it] it (fun i h=>IsRangeIter h it (lo+(i:Nat)*1) ((n:Int) - (i:Nat)) 1) where
 mem:=by simp
 obj:=fun i h st b hb=>by
  have e:b=it:=by simpa using hb
  subst e
  exact⟨_,st,fun v z=>by
   have z':Data.fields _=Data.cell v:=z
   cases z'⟩
 keep:=fun i h h' st k=>k it (by simp) _ st
 item:=by
  intro X hP hw hK hc i pins s σ H E I hf st hg
  subst hP hw hK
  obtain⟨f0,f1,f2,f3,f4,f5⟩:=hf it (by simp)
  have W:=Walks.range (prog:=X.prog) (w:=X.w) (I.ok.hd hc) it lo 1 n
  refine W.item i s _ _ hg st fun v h' tk hv st' kk=>?_
  revert hv
  refine fun zqq=>L2.c5 zqq fun t zq1=>?_
  clear zqq
  subst zq1
  have I1:Inv X pins σ H {s with heap:=h',toks:=tk}:=I.turned (fun b o hb e=>kk b o (by simpa using hb) e) f0 f1 f3 f4 f5
  refine⟨_,rfl,wI (s:={s with heap:=h',toks:=tk}) (n:="range_iterator") st' rfl rfl (by decide) ⟨.int (lo+i),H,I1,⟨t,?_⟩,⟨rfl,rfl⟩,st',fun b hb=>(hf b hb).1⟩⟩
  rw[Int.mul_one]
 done:=by
  intro X hP hw hK hc i pins s σ H E I hf st hg
  subst hP hw hK
  obtain⟨f0,f1,f2,f3,f4,f5⟩:=hf it (by simp)
  exact wpAny_pyNext_range_end (I.ok.hd hc) st (by have:n≤i:=hg;omega) fun h' eb=>⟨rfl,I.turned (t':=s.toks) (fun b o hb e=>eb b o hb e) f0 f1 f3 f4 f5⟩
 self:=fun _ _ _ _ _ st h=>wpAny_pyIter_rangeiter st h
end L2
namespace L2
section
variable {X:Cx}{tg:Expr}
def DH (K:PySem.W.Frag)(tl:TE):TI:=fun σ H R=>tl σ H fun x H1=>∃ a,x=.ref a∧(∃ xs,aN K H1 a xs)∧R (qc K a) H1
theorem yM {l:Expr}{tl:TE}(hl:PE X l tl):PI X tg l (DH X.K tl):=by
 intro pins s σ H R I h
 refine aI (hl pins s σ H _ I h) fun v s1 zpat=>?_
 obtain⟨x,H1,I1,r1,q1⟩:=zpat
 obtain⟨a,e,⟨xs,hq⟩,q⟩:=q1
 subst e
 cases r1
 obtain⟨its,rv,p,hz⟩:=I1.list hq
 refine wpAny_pyIter_list p.isList ?_
 refine ⟨s1.heap.objs.size,[s1.heap.objs.size],_,_,H1,rfl,(I1.kept (t':=s1.toks) fun b o e=>Heap.get?_push_of_some _ e),J6 a _,(⟨_,Heap.get?_push_size _ rfl,rfl,rfl⟩),(fun b hb=>?_),q⟩
 have e:b=s1.heap.objs.size:=by simpa using hb
 subst e
 exact I1.fpOk (Nat.le_refl _) (I1.hok.fresh (Nat.le_refl _))
theorem HI {pins:List (Addr×Obj)}{σ:St}{H:Hp}{s:Shared}{R:It->Hp->Prop}{E:Value->Shared->Prop}{lo hi:Int}{t u v:Tok}{tk:Nat}(I:Inv X pins σ H s)(h1:-(2 ^ 62)≤lo)(h2:lo<2 ^ 62)(h3:-(2 ^ 62)≤hi)(h4:hi<2 ^ 62)
  (q:R (mR lo (hi - lo).toNat) H):wpAny (model X.prog X.w) X.A (pyIter (.ref s.heap.objs.size)) (uI X pins σ tg R) E {s with heap:=s.heap.push {cls:=.type "range",data:=.fields #[.int lo t,.int hi u,.int 1 v]},toks:=tk}:=by
 refine wpAny_pyIter_range (IsRange.new ..) (small_one h1 h2 h3 h4) ?_
 have I1:Inv X pins σ H {s with heap:=s.heap.push {cls:=.type "range",data:=.fields #[.int lo t,.int hi u,.int 1 v]},toks:=tk}:=I.kept fun b o e=>Heap.get?_push_of_some _ e
 refine⟨(s.heap.push {cls:=.type "range",data:=.fields #[.int lo t,.int hi u,.int 1 v]}).objs.size,[(s.heap.push {cls:=.type "range",data:=.fields #[.int lo t,.int hi u,.int 1 v]}).objs.size],_,_,H,rfl,
  I1.kept (t':=tk) fun b o e=>Heap.get?_push_of_some _ e,J7 _ lo (hi - lo).toNat,?_,fun b hb=>?_,q⟩
 ·have e1:lo+((0:Nat):Int)*1=lo:=by simp
  have e2:(((hi - lo).toNat:Nat):Int) - ((0:Nat):Int)=Builtin.Range.rangeSize lo hi 1:=by rw[rangeSize_one];split <;> omega
  show IsRangeIter _ _ (lo+((0:Nat):Int)*1) ((((hi - lo).toNat:Nat):Int) - ((0:Nat):Int)) 1
  rw[e1,e2]
  exact Heap.get?_push_size _ rfl
 ·have e:b=(s.heap.push {cls:=.type "range",data:=.fields #[.int lo t,.int hi u,.int 1 v]}).objs.size:=by simpa using hb
  subst e
  exact I1.fpOk (Nat.le_refl _) (I1.hok.fresh (Nat.le_refl _))
def DI (ta:TA):TI:=fun σ H R=>ta σ H fun vs H1=>∃ j:Int,vs=[.int j]∧-(2 ^ 62)≤j∧j<2 ^ 62∧R (mR 0 j.toNat) H1
theorem GP {a:Expr}{ta:TA}{p pos:Pos}(hg:Gl X "range")(hm:X.mg "range"=none)(ha:PA X [a] ta)(hs:starEach [a] X.env=[(false,eval a X.env)]:=by rfl):PI X tg (.Call (.Name "range" p) [a] [] pos) (DI ta):=by
 intro pins s σ H R I h
 refine Call_ (iX I hg hm boot_range (PyProof.Rows.callWith_type1 (aI (ha pos pins s σ H _ I h) fun us s1 ⟨vs,H1,I1,r1,q1⟩=>?_) hs rfl))
 revert q1
 refine fun zqq=>L2.Fl zqq fun j e q1 q2 q=>?_
 clear zqq
 subst e
 cases r1 with
 | cons r rr=>
  cases rr
  revert r
  refine fun zqq=>L2.c5 zqq fun t zq1=>?_
  clear zqq
  subst zq1
  exact call_range_1 (HI I1 (by omega) (by omega) q1 q2 (by simpa using q))
def JC (wi:TI)(g:TG)(tb:TS):TS:=fun D σ H=>wi σ H fun J H1=>∃ W:Nat->Nat->St->Hp->Prop,(∃ m,W 0 m σ H1)∧∀ i m σ H,W i m σ H ->
 (J.stop i H∧D.nx σ H)∨(J.go i H∧∃ N:St->Hp->Prop,(∀ σ' H',N σ' H'->∃ m',m'<m∧W (i+1) m' σ' H')∧∀ x H',J.yld i H x H'->g x σ H' fun σ2 H2=>tb {D with nx:=N,ct:=N,bk:=D.nx} σ2 H2)
def l8 (fp:List Addr)(h:Heap):List (Addr×Obj):=fp.filterMap fun b=>(h.get? b).map fun o=>(b,o)
theorem om {fp:List Addr}{h:Heap}{b:Addr}{o:Obj}(hb:b∈fp)(e:h.get? b=some o):(b,o)∈l8 fp h:=List.mem_filterMap.mpr ⟨b,hb,by rw[e];rfl⟩
theorem Fu {fp:List Addr}{h:Heap}{p:Addr×Obj}(hp:p∈l8 fp h):p.1∈fp∧h.get? p.1=some p.2:=by
 obtain⟨b,hb,e⟩:=List.mem_filterMap.mp hp
 cases q:h.get? b with
 | none=>rw[q] at e;cases e
 | some o=>
  rw[q] at e
  have e':(b,o)=p:=Option.some.inj e
  subst e'
  exact⟨hb,q⟩
theorem Inv.pinned {pins:List (Addr×Obj)}{σ:St}{H:Hp}{s:Shared}{fp:List Addr}(I:Inv X pins σ H s)(hf:∀ b∈fp,b_ X pins H b)(ho:∀ b∈fp,∃ o,s.heap.get? b=some o∧∀ v,o.data≠.cell v):Inv X (pins++l8 fp s.heap) σ H s:=
 I.pins_of fun p hp=>(List.mem_append.mp hp).elim (fun z=>I.pin p (List.mem_append_right _ z)) fun z=>by
  obtain⟨hb,e⟩:=Fu z
  obtain⟨f0,f1,f2,_⟩:=hf p.1 hb
  obtain⟨o,e',d⟩:=ho p.1 hb
  rw[e] at e';cases e'
  exact⟨e,f0,f1,f2,d⟩
theorem Inv.unpinned {pins pl:List (Addr×Obj)}{σ:St}{H:Hp}{s:Shared}(I:Inv X (pins++pl) σ H s):Inv X pins σ H s:=I.pins_of fun p hp=>I.pin p (List.mem_append_right _ (List.mem_append_left _ hp))
theorem yU {iter:Expr}{body:List Stmt}{wi:TI}{g:TG}{tb:TS}{pos:Pos}(hp:PassesOwn (model X.prog X.w) X.A X.env X.xe)(hc:X.calm=true)(hi:PI X tg iter wi)(hg:PG X tg g)(hb:cT X body tb)
  (hs:∀ x,foldedSetIterable iter X.env x=pure x:=by intro _;rfl):PS X (.For tg iter body [] pos) (JC wi g tb):=by
 intro pins s σ H D I h
 refine wpAny_For (aI (hi pins s σ H _ I h) fun v s1 h1=>aI h1 fun itv s2 h2=>?_) hs
 obtain⟨it,fp,tn,J,H2,e,I2,T,st2,f2,W,⟨m0,w0⟩,turn⟩:=h2
 subst e
 -- what stays true of the iterator's objects through the loop
 have stat:∀ {H':Hp},(∀ b∈fp,H' b=none)->∀ b∈fp,b_ X pins H' b:=fun hn b hb=>⟨hn b hb,(f2 b hb).2⟩
 refine codeAny_forLoop_any (fun n s'=>∃ i σ' H',Inv X pins σ' H' s'∧tn i s'.heap∧(∀ b∈fp,H' b=none)∧W i n σ' H') ?_ m0 ⟨0,σ,H2,I2,st2,fun b hb=>(f2 b hb).1,w0⟩
 rintro n s3 ⟨i,σ3,H3,I3,st3,fr3,w3⟩
 rcases turn i n σ3 H3 w3 with ⟨stop,qn⟩ | ⟨go,N,hN,step⟩
 ·refine wpAny_passesOwn hp (aI (T.done X rfl rfl rfl hc i pins s3 σ3 H3 X.xe I3 (stat fr3) st3 stop) fun r s4 zpat=>?_)
  obtain⟨hr,I4⟩:=zpat
  subst hr
  exact wpAny_execs_nil ⟨σ3,H3,I4,qn⟩
 ·refine wpAny_passesOwn hp (aI (T.item X rfl rfl rfl hc i pins s3 σ3 H3 X.xe I3 (stat fr3) st3 go) fun r s4 zpat=>?_)
  obtain⟨u,hr,h4⟩:=zpat
  subst hr
  refine wpAny_passesOwn hp (aI h4 fun _ s5 zpat=>?_)
  obtain⟨x,H5,I5,r5,y5,st5,fr5⟩:=zpat
  have I5':=I5.pinned (stat fr5) (T.obj _ _ st5)
  refine wpAny_passesOwn hp (aI (hg _ s5 σ3 H5 x u _ I5' r5 (step x H5 y5)) fun _ s6 zpat=>?_)
  obtain⟨σ6,H6,I6,q6⟩:=zpat
  refine wpAny_passesOwn hp (aI (hb _ s6 σ6 H6 _ I6 q6) fun f s7 q7=>?_)
  have again:∀ {σ7:St} {H7:Hp},Inv X (pins++l8 fp s5.heap) σ7 H7 s7->N σ7 H7->∃ m,m<n∧∃ i σ' H',Inv X pins σ' H' s7∧tn i s7.heap∧(∀ b∈fp,H' b=none)∧W i m σ' H':=fun {σ7 H7} I7 n7=>by
   obtain⟨m',hm,w7⟩:=hN σ7 H7 n7
   refine ⟨m',hm,i+1,σ7,H7,I7.unpinned,(T.keep _ _ _ st5 fun b hb o e=>(I7.pin (b,o) (List.mem_append_right _ (List.mem_append_right _ (om hb e)))).1),(fun b hb=>?_),w7⟩
   obtain⟨o,e,d⟩:=T.obj _ _ st5 b hb
   exact (I7.pin (b,o) (List.mem_append_right _ (List.mem_append_right _ (om hb e)))).2.1
  cases f with
  | next=>obtain⟨σ7,H7,I7,n7⟩:=q7;exact again I7 n7
  | cont=>obtain⟨σ7,H7,I7,n7⟩:=q7;exact again I7 n7
  | brk=>obtain⟨σ7,H7,I7,q7⟩:=q7;exact⟨σ7,H7,I7.unpinned,q7⟩
  | ret v=>obtain⟨x7,σ7,H7,I7,r7,q7⟩:=q7;exact⟨x7,σ7,H7,I7.unpinned,r7,q7⟩
end
end L2
namespace L2
abbrev R2:=V->V->Hp->VK->Prop
def bX (X:Cx)(f:Value->Value->Sem Value)(r:R2):Prop:=
 ∀ (pins:List (Addr×Obj)) (s:Shared) (σ:St) (H:Hp) (x y:V) (v u:Value) (Q:VK),Inv X pins σ H s->RelV x v->RelV y u->r x y H Q ->
  wpAny (model X.prog X.w) X.A (f v u) (EP X pins σ Q) X.xe s
def qy (X:Cx)(f:Value->Sem Value)(r:V->Hp->VK->Prop):Prop:=
 ∀ (pins:List (Addr×Obj)) (s:Shared) (σ:St) (H:Hp) (x:V) (v:Value) (Q:VK),Inv X pins σ H s->RelV x v->r x H Q ->
  wpAny (model X.prog X.w) X.A (f v) (EP X pins σ Q) X.xe s
def dz (X:Cx)(f:Value)(r:List V->Hp->VK->Prop):Prop:=
 ∀ (pins:List (Addr×Obj)) (s:Shared) (σ:St) (H:Hp) (xs:List V) (us:List Value) (Q:VK),Inv X pins σ H s->aG xs us->r xs H Q ->
  wpAny (model X.prog X.w) X.A (call f us) (EP X pins σ Q) X.xe s
def kM (r:R2)(ta tb:TE):TE:=fun σ H Q=>ta σ H fun x H1=>tb σ H1 fun y H2=>r x y H2 Q
def JX (r:V->Hp->VK->Prop)(ta:TE):TE:=fun σ H Q=>ta σ H fun x H1=>r x H1 Q
def rI (C:Int->Int->Prop)(g:Int->Int->V):R2:=fun x y H Q=>∃ i j,x=.int i∧y=.int j∧C i j∧Q (g i j) H
def ik (g:Int->Int->V):R2:=fun x y H Q=>∃ i j,x=.int i∧y=.int j∧Q (g i j) H
def rU (g:Int->V):V->Hp->VK->Prop:=fun x H Q=>∃ i,x=.int i∧Q (g i) H
section
variable {X:Cx}{a b c:Expr}{ta tb tc:TE}{pos:Pos}
theorem qL (ha:PE X a ta)(hb:PE X b tb){pins:List (Addr×Obj)}{s:Shared}{σ:St}{H:Hp}{R:V->V->Hp->Prop}(I:Inv X pins σ H s)
  (h:ta σ H fun x H1=>tb σ H1 fun y H2=>R x y H2) {Q:Value->Shared->Prop} {f:Value->Value->Sem Value}
  (hf:∀ v u s2 x y H2,Inv X pins σ H2 s2->RelV x v->RelV y u->R x y H2->wpAny (model X.prog X.w) X.A (f v u) Q X.xe s2) :
  wpAny (model X.prog X.w) X.A (eval a X.env) (fun v s₁=>wpAny (model X.prog X.w) X.A (eval b X.env) (fun u s₂=>wpAny (model X.prog X.w) X.A (f v u) Q X.xe s₂) X.xe s₁) X.xe s:=by
 refine aI (ha pins s σ H _ I h) fun v s1 zpat=>?_
 obtain⟨x,H1,I1,r1,q1⟩:=zpat
 refine aI (hb pins s1 σ H1 _ I1 q1) fun u s2 zpat=>?_
 obtain⟨y,H2,I2,r2,q2⟩:=zpat
 exact hf v u s2 x y H2 I2 r1 r2 q2
theorem jD {op:Operator}{r:R2}(ho:bX X (binaryOp op) r)(ha:PE X a ta)(hb:PE X b tb):PE X (.BinOp a op b pos) (kM r ta tb):=by
 intro pins s σ H Q I h
 exact wpAny_BinOp (qL ha hb I h fun v u s2 x y H2 I2 rx ry q=>ho pins s2 σ H2 x y v u Q I2 rx ry q)
theorem GG {op:UnaryOp}{r:V->Hp->VK->Prop}(ho:qy X (unaryOp op) r)(ha:PE X a ta):PE X (.UnaryOp op a pos) (JX r ta):=by
 intro pins s σ H Q I h
 exact UnaryOp_ (aI (ha pins s σ H _ I h) fun v s1 ⟨x,H1,I1,r1,q1⟩=>ho pins s1 σ H1 x v Q I1 r1 q1)
theorem oB {f:Value->Value->Sem Value}{C:Int->Int->Prop}{g:Int->Int->Int}
  (rule:∀ (i j:Int) (t u:Tok) (s:Shared) (Q:Value->Shared->Prop) (E:Value->Shared->Prop),C i j->Q (.int (g i j) s.toks) {s with toks:=s.toks+1}->wpAny (model X.prog X.w) X.A (f (.int i t) (.int j u)) Q E s) :
  bX X f (rI C fun i j=>.int (g i j)):=by
 intro pins s σ H x y v u Q I rx ry h
 revert h
 refine fun zqq=>L2.jB zqq fun i j zq2 zq3 hc q=>?_
 clear zqq
 subst zq2
 subst zq3
 revert rx
 refine fun zqq=>L2.c5 zqq fun t zq1=>?_
 clear zqq
 subst zq1
 revert ry
 refine fun zqq=>L2.c5 zqq fun t' zq1=>?_
 clear zqq
 subst zq1
 exact rule i j t t' s _ _ hc ⟨.int (g i j),H,I.tok _,⟨_,rfl⟩,q⟩
theorem yw {f:Value->Value->Sem Value}{g:Int->Int->Int}
  (rule:∀ (i j:Int) (t u:Tok) (s:Shared) (Q:Value->Shared->Prop) (E:Value->Shared->Prop),Q (.int (g i j) s.toks) {s with toks:=s.toks+1}->wpAny (model X.prog X.w) X.A (f (.int i t) (.int j u)) Q E s) :
  bX X f (ik fun i j=>.int (g i j)):=by
 intro pins s σ H x y v u Q I rx ry h
 revert h
 refine fun zqq=>L2.kA zqq fun i j zq2 zq3 q=>?_
 clear zqq
 subst zq2
 subst zq3
 revert rx
 refine fun zqq=>L2.c5 zqq fun t zq1=>?_
 clear zqq
 subst zq1
 revert ry
 refine fun zqq=>L2.c5 zqq fun t' zq1=>?_
 clear zqq
 subst zq1
 exact rule i j t t' s _ _ ⟨.int (g i j),H,I.tok _,⟨_,rfl⟩,q⟩
theorem oA {f:Value->Value->Sem Value}{g:Int->Int->Bool}
  (rule:∀ (i j:Int) (t u:Tok) (s:Shared) (Q:Value->Shared->Prop) (E:Value->Shared->Prop),Q (.bool (g i j)) s->wpAny (model X.prog X.w) X.A (f (.int i t) (.int j u)) Q E s) :
  bX X f (ik fun i j=>.bl (g i j)):=by
 intro pins s σ H x y v u Q I rx ry h
 revert h
 refine fun zqq=>L2.kA zqq fun i j zq2 zq3 q=>?_
 clear zqq
 subst zq2
 subst zq3
 revert rx
 refine fun zqq=>L2.c5 zqq fun t zq1=>?_
 clear zqq
 subst zq1
 revert ry
 refine fun zqq=>L2.c5 zqq fun t' zq1=>?_
 clear zqq
 subst zq1
 exact rule i j t t' s _ _ ⟨.bl (g i j),H,I,rfl,q⟩
def Aq (i j:Int):Prop:=0≤j∧j≤1000000∧i.natAbs<2 ^ 64
def mz (i j:Int):Prop:=(-(2 ^ 64)<i∧i<2 ^ 64)∨(-(2 ^ 64)<j∧j<2 ^ 64)
theorem mz.ok {i j:Int}(h:mz i j):IntMulOk i j:=by
 rcases h with ⟨h1,h2⟩ | ⟨h1,h2⟩
 ·exact .of_left (intBits_le_64 h1 h2)
 ·exact .of_right (intBits_le_64 h1 h2)
theorem Ga:bX X (binaryOp .Add) (ik fun i j=>.int (i+j)):=yw fun _ _ _ _ _ _ _ q=>add_int q
theorem Gs:bX X (binaryOp .Sub) (ik fun i j=>.int (i - j)):=yw fun _ _ _ _ _ _ _ q=>sub_int q
theorem Gm:bX X (binaryOp .Mod) (rI (fun _ j=>j≠0) fun i j=>.int (i.fmod j)):=oB fun _ _ _ _ _ _ _ hc q=>mod_int' hc q
theorem Gr:bX X (binaryOp .Pow) (rI Aq fun i j=>.int (i ^ j.toNat)):=oB fun _ _ _ _ _ _ _ hc q=>pow_int_small hc.1 hc.2.1 hc.2.2 q
theorem Ke {f:Value->Sem Value}{g:Int->Int}
  (rule:∀ (i:Int) (t:Tok) (s:Shared) (Q:Value->Shared->Prop) (E:Value->Shared->Prop),Q (.int (g i) s.toks) {s with toks:=s.toks+1}->wpAny (model X.prog X.w) X.A (f (.int i t)) Q E s) :
  qy X f (rU fun i=>.int (g i)):=by
 intro pins s σ H x v Q I rx h
 revert h
 refine fun zqq=>L2.iZ zqq fun i zq1 q=>?_
 clear zqq
 subst zq1
 revert rx
 refine fun zqq=>L2.c5 zqq fun t zq1=>?_
 clear zqq
 subst zq1
 exact rule i t s _ _ ⟨.int (g i),H,I.tok _,⟨_,rfl⟩,q⟩
theorem Kf:qy X (unaryOp .USub) (rU fun i=>.int (-i)):=Ke fun _ _ _ _ _ q=>neg_int q
end
section
variable {X:Cx}{a b c:Expr}{ta tb tc:TE}{pos:Pos}
theorem wk {pins:List (Addr×Obj)}{σ:St}{H:Hp}{s:Shared}{Q:VK}{k k':Bool}(I:Inv X pins σ H s)(q:Q (.bl k) H)(e:k=k'):EP X pins σ Q (.bool k') s:=by
 subst e
 exact⟨.bl k,H,I,rfl,q⟩
theorem Gk:bX X (compareOp .Lt) (ik fun i j=>.bl (decide (i<j))):=oA fun _ _ _ _ _ _ _ q=>lt_int q
theorem Gj:bX X (compareOp .LtE) (ik fun i j=>.bl (decide (i≤j))):=oA fun _ _ _ _ _ _ _ q=>le_int q
theorem Gh:bX X (compareOp .Gt) (ik fun i j=>.bl (decide (j<i))):=oA fun _ _ _ _ _ _ _ q=>gt_int q
theorem Gg:bX X (compareOp .GtE) (ik fun i j=>.bl (decide (j≤i))):=oA fun _ _ _ _ _ _ _ q=>ge_int q
theorem bX.or {f:Value->Value->Sem Value}{r r':R2}(h:bX X f r)(h':bX X f r'):bX X f (fun x y H Q=>r x y H Q∨r' x y H Q):=by
 intro pins s σ H x y v u Q I rx ry q
 rcases q with q | q
 ·exact h pins s σ H x y v u Q I rx ry q
 ·exact h' pins s σ H x y v u Q I rx ry q
theorem yj (b:Expr){op:CmpOp}(h:op≠.In:=by decide)(h2:op≠.NotIn:=by decide):behindInMarks op b=false:=by
 have e1:(op==CmpOp.In)=false:=by cases op <;> first | rfl | exact absurd rfl h
 have e2:(op==CmpOp.NotIn)=false:=by cases op <;> first | rfl | exact absurd rfl h2
 cases b <;> simp[behindInMarks,e1,e2]
theorem yF {op:CmpOp}{r:R2}(ho:bX X (compareOp op) r)(ha:PE X a ta)(hb:PE X b tb)(hm:behindInMarks op b=false):PE X (.Compare a [op] [b] pos) (kM r ta tb):=by
 intro pins s σ H Q I h
 exact wpAny_Compare1 (qL ha hb I h fun v u s2 x y H2 I2 rx ry q=>ho pins s2 σ H2 x y v u Q I2 rx ry q) hm
def z4 (t:TE):TT:=fun σ H Q=>t σ H fun x H'=>∃ k,x=.bl k∧Q k H'
theorem Hj {op:CmpOp}{r:R2}(ho:bX X (compareOp op) r)(ha:PE X a ta)(hb:PE X b tb)(hm:behindInMarks op b=false):PT X (.Compare a [op] [b] pos) (z4 (kM r ta tb)):=by
 intro pins s σ H Q I h
 refine wpAny_isTrue_Compare1 (aI (ha pins s σ H _ I h) fun v s1 ⟨x,H1,I1,r1,q1⟩=>aI (hb pins s1 σ H1 _ I1 q1) fun u s2 ⟨y,H2,I2,r2,q2⟩=>
  aI (ho pins s2 σ H2 x y v u _ I2 r1 r2 q2) fun c s3 ⟨z,H3,I3,r3,k,e,q3⟩=>?_) hm
 subst e
 cases r3
 exact wpAny_truthy_bool ⟨H3,I3,q3⟩
def Jz (r r':R2)(ta tb tc:TE):TE:=fun σ H Q=>ta σ H fun x H1=>tb σ H1 fun y H2=>r x y H2 fun z H3=>∃ k,z=.bl k ∧
 (if k=true then tc σ H3 fun w' H4=>r' y w' H4 Q else Q (.bl false) H3)
theorem Hi {op op':CmpOp}{r r':R2}(ho:bX X (compareOp op) r)(ho':bX X (compareOp op') r')(ha:PE X a ta)(hb:PE X b tb)(hc:PE X c tc)
  (hm:lastMarks [op,op'] [b,c]=false:=by with_unfolding_all rfl):PT X (.Compare a [op,op'] [b,c] pos) (z4 (Jz r r' ta tb tc)):=by
 intro pins s σ H Q I h
 refine isTrue_chain (aI (ha pins s σ H _ I h) fun v s1 ⟨x,H1,I1,r1,q1⟩=>test_link (aI (hb pins s1 σ H1 _ I1 q1) fun u s2 ⟨y,H2,I2,r2,q2⟩=>
  aI (ho pins s2 σ H2 x y v u _ I2 r1 r2 q2) fun d s3 ⟨z,H3,I3,r3,k,e,q3⟩=>?_)) hm
 subst e
 cases r3
 refine wpAny_truthy_bool ?_
 cases k with
 | false=>
  obtain⟨k',e',q'⟩:=id q3
  cases e'
  exact ite_ff ⟨H3,I3,q'⟩
 | true=>
  refine ite_tt (test_last (aI (hc pins s3 σ H3 _ I3 q3) fun w' s4 ⟨z',H4,I4,r4,q4⟩=>aI (ho' pins s4 σ H4 y z' u w' _ I4 r2 r4 q4) fun d' s5 zpat=>?_))
  obtain⟨z2,H5,I5,r5,k2,e2,q5⟩:=zpat
  subst e2
  cases r5
  exact wpAny_truthy_bool ⟨H5,I5,q5⟩
theorem rH:(sizeLine:Nat)<2 ^ 63:=by rw[sizeLine_eq];decide
theorem vals1 {x:V}{us:List Value}(r:aG [x] us):∃ u,us=[u]∧RelV x u:=by
 cases r with
 | cons r1 r2=>cases r2;exact⟨_,rfl,r1⟩
theorem vals2 {x y:V}{us:List Value}(r:aG [x,y] us):∃ u w',us=[u,w']∧RelV x u∧RelV y w':=by
 cases r with
 | cons r1 r2=>
  cases r2 with
  | cons r3 r4=>cases r4;exact⟨_,_,rfl,r1,r3⟩
theorem BH:dz X (.builtin "abs") (fun xs H Q=>∃ i,xs=[.int i]∧Q (.int (if i<0 then -i else i)) H):=by
 intro pins s σ H xs us Q I r h
 revert h
 refine fun zqq=>L2.iZ zqq fun i zq1 q=>?_
 clear zqq
 subst zq1
 obtain⟨u,zq1,t,zq3⟩:=vals1 r
 subst zq1
 subst zq3
 exact call_abs_int fun u tk=>⟨.int (if i<0 then -i else i),H,I.tok _,⟨_,rfl⟩,q⟩
theorem BL (hc:X.calm=true):dz X (.builtin "min") (fun xs H Q=>∃ i j,xs=[.int i,.int j]∧Q (.int (if j<i then j else i)) H):=by
 intro pins s σ H xs us Q I r h
 revert h
 refine fun zqq=>L2.rZ zqq fun i j zq2 q=>?_
 clear zqq
 subst zq2
 obtain⟨u,w',rfl,⟨t,rfl⟩,⟨t',rfl⟩⟩:=vals2 r
 refine min_two_ints (I.ok.hd hc) fun h' tk k=>⟨_,H,I.kept k,?_,q⟩
 by_cases hj:j<i
 ·rw[if_pos hj,if_pos hj];exact⟨_,rfl⟩
 ·rw[if_neg hj,if_neg hj];exact⟨_,rfl⟩
theorem BJ:dz X (.type "int") (fun xs H Q=>(∃ i,xs=[.int i]∧Q (.int i) H)∨∃ k,xs=[.bl k]∧Q (.int (if k then 1 else 0)) H):=by
 intro pins s σ H xs us Q I r h
 rcases h with ⟨i,rfl,q⟩ | ⟨k,rfl,q⟩
 ·obtain⟨u,zq1,t,zq3⟩:=vals1 r
  subst zq1
  subst zq3
  exact call_int_int ⟨.int i,H,I,⟨_,rfl⟩,q⟩
 ·obtain⟨u,zq1,r1⟩:=vals1 r
  subst zq1
  cases r1
  exact call_int_bool ⟨.int (if k then 1 else 0),H,I.tok _,⟨_,rfl⟩,q⟩
end
end L2
namespace L2
structure uF (h:Heap)(x dx C:Addr)(mA:Str->Option Value):Prop where
 obj:h.get? x=some (PySem.W.instObj C dx)
 ns:h.Ns1 dx mA
 ne:dx≠x
theorem xS {h:Heap}{dx:Addr}{mA:Str->Option Value}(n:h.Ns1 dx mA):∃ od,h.get? dx=some od∧∀ name,PySem.W.lookIn name od=some (mA name):=by
 obtain⟨o,es,ep,ho,hd,hk,_,hm⟩:=id n
 refine⟨o,ho,fun name=>?_⟩
 have e:=hm name
 unfold nsFind findBy at e
 rw[← Array.find?_toList] at e
 unfold PySem.W.lookIn
 rw[hd]
 dsimp only
 split
 ·rename_i y q
  rw[q] at e
  exact congrArg some e
 ·rename_i q
  rw[q] at e
  have a:es.toList.any (·.refKey)=false:=by
   rw[List.any_eq_false]
   intro y hy
   obtain⟨z,t,hkey⟩:=hk y (Array.mem_toList_iff.mp hy)
   simp[DictEntry.refKey,hkey]
  have a':¬ es.toList.any (·.refKey)=true:=by rw[a];exact Bool.false_ne_true
  rw[if_neg a']
  exact congrArg some e
theorem uF.look {h:Heap}{x dx C:Addr}{mA:Str->Option Value}(I:uF h x dx C mA):∃ od,PySem.W.InstAt h x (PySem.W.instObj C dx) C (some od)∧∀ name,PySem.W.lookIn name od=some (mA name):=
 let ⟨od,ho,hl⟩:=xS I.ns
 ⟨od,⟨I.obj,rfl,rfl,ho⟩,hl⟩
section
variable {prog:Program}{w:World}{A:Around}{E:Value->Shared->Prop}{s:Shared}{K:PySem.W.Frag}{x dx C f:Addr}{mA:Str->Option Value}{name:Str}{v:Value}
end
theorem iG.some_of {v:V}{o:Option Value}(r:iG (some v) o):∃ u,o=some u∧RelV v u:=by
 cases o with
 | none=>exact (show False from r).elim
 | some u=>exact⟨u,rfl,r⟩
theorem iG.none_of {o:Option Value}(r:iG none o):o=none:=by
 cases o with
 | none=>rfl
 | some u=>exact (show False from r).elim
theorem Dq {v:V}{u:Value}(r:RelV v u):PySem.W.handedIn u=true:=by
 cases v with
 | non=>cases (show u=Value.none from r);rfl
 | bl b=>cases (show u=Value.bool b from r);rfl
 | int i=>obtain⟨t,e⟩:=(show ∃ t,u=Value.int i t from r);cases e;rfl
 | str x=>obtain⟨t,e⟩:=(show ∃ t,u=Value.str x t from r);cases e;rfl
 | byt b=>obtain⟨t,e⟩:=(show ∃ t,u=Value.bytes b t from r);cases e;rfl
 | flt b=>obtain⟨t,e⟩:=(show ∃ t,u=Value.float b t from r);cases e;rfl
 | ref a=>cases (show u=Value.ref a from r);rfl
 | ty n=>cases (show u=Value.type n from r);rfl
section
variable {P:Program}{w:World}{H H':Hp}{h h':Heap}{a C dx:Addr}{fs fs':List (Str×V)}
end
structure mB (K:PySem.W.Frag)(C:Addr):Prop where
 pg:PySem.W.plainGet K C Str.empty=true
 hd:PySem.W.hasDictIn K C=true
 po:PySem.W.plainOver K C=true
 sa:PySem.W.findIn K (.ref C) "__setattr__"=some (some (.builtin "object.__setattr__"))
theorem mB.get {K:PySem.W.Frag}{C:Addr}(c:mB K C)(f:Str):PySem.W.plainGet K C f=true:=c.pg
def uE (K:PySem.W.Frag)(C:Addr)(f:Str):Prop:=PySem.W.findIn K (.ref C) f=some none
structure Ky (K:PySem.W.Frag)(C:Addr)(f:Str)(v:V)(u:Value):Prop where
 at_:PySem.W.findIn K (.ref C) f=some (some u)
 rel:RelV v u
 get:PySem.W.specialIn K u "__get__"=some none
 cp:PySem.W.copiedNames.contains f=false
structure KH (K:PySem.W.Frag)(C:Addr)(m:Str)(f:Addr):Prop where
 at_:PySem.W.findIn K (.ref C) m=some (some (.ref f))
 fn:PySem.W.isFn K (.ref f)=true
 kp:PySem.W.keepIn K (.ref f)=true
section
variable {X:Cx}{pins:List (Addr×Obj)}{σ:St}{H:Hp}{s:Shared}{a C dx:Addr}{fs:List (Str×V)}{f:Str}{v:V}{A:Around}{E:Value->Shared->Prop}
theorem Inv.made (I:Inv X pins σ H s):Inv X pins σ (upd (upd H s.heap.objs.size (.own (s.heap.objs.size+1))) (s.heap.objs.size+1) (.ins C s.heap.objs.size []))
  {s with heap:=(s.heap.push PySem.W.emptyDict).push (PySem.W.instObj C s.heap.objs.size)}:=by
 have e1:(s.heap.push PySem.W.emptyDict).get? s.heap.objs.size=some PySem.W.emptyDict:=Heap.get?_push_size s.heap rfl
 have e2:((s.heap.push PySem.W.emptyDict).push (PySem.W.instObj C s.heap.objs.size)).get? (s.heap.objs.size+1)=some (PySem.W.instObj C s.heap.objs.size):=by
  have:=Heap.get?_push_size (s.heap.push PySem.W.emptyDict) (o:=PySem.W.instObj C s.heap.objs.size) rfl
  rwa [Heap.size_push] at this
 have e3:(s.heap.push PySem.W.emptyDict).Ns s.heap.objs.size (fun _=>none):=⟨PySem.W.emptyDict,#[],_,e1,rfl,(fun e he=>absurd he (by simp)),fun _=>rfl⟩
 have I1:=I.laid (a:=s.heap.objs.size) (o:=.own (s.heap.objs.size+1)) (h':=s.heap.push PySem.W.emptyDict) (t':=s.toks) (fun b u q=>Heap.get?_push_of_some _ q) (Nat.le_refl _) ⟨_,e1⟩
 refine I1.laid (a:=s.heap.objs.size+1) (o:=.ins C s.heap.objs.size []) (t':=s.toks) (fun b u q=>Heap.get?_push_of_some _ q) (Nat.le_of_eq (Heap.size_push _ _)) ?_
 have ne:s.heap.objs.size≠s.heap.objs.size+1:=Nat.ne_of_lt (Nat.lt_succ_self _)
 refine⟨by rw[aD ne,bC],Nat.zero_le _,ne,e2,fun _=>none,(Heap.Ns1.of_empty e3).at fun o q=>Heap.get?_push_of_some _ q,fun _=>True.intro,fun y hy=>absurd rfl hy⟩
theorem Bo {prog:Program}{w:World}{env:Env}{e:Expr}{f:Str}{pos:Pos}{s:Shared}{Q:Value->Shared->Prop}(hb:attributeBase e f env (eval e env)=eval e env)
  (h:wpAny (model prog w) A (eval e env) (fun o s₁=>wpAny (model prog w) A (getAttr o f true) Q E s₁) E s):wpAny (model prog w) A (eval (.Attribute e f pos) env) Q E s:=
 Attribute_any_ h (by rw[arm_eval_Attribute,hb])
end
section
variable {X:Cx}{o e value:Expr}{f:Str}{pos pos' tpos:Pos}{ta tv:TE}
end
section
variable {X:Cx}{pins:List (Addr×Obj)}{σ:St}{H:Hp}{s:Shared}{A:Around}{E Q:Value->Shared->Prop}{c:Value}{b:Bool}
inductive fQ (K:PySem.W.Frag)(H:Hp):V->Value->Prop where
 | non:fQ K H .non (.type "NoneType")
 | bl (x:Bool):fQ K H (.bl x) (.type "bool")
 | int (i:Int):fQ K H (.int i) (.type "int")
 | str (x:Str):fQ K H (.str x) (.type "str")
 | flt (x:UInt64):fQ K H (.flt x) (.type "float")
 | lst {a:Addr} {xs:List V} (e:H a=some (.lst xs)):fQ K H (.ref a) (.type "list")
 | frz {a:Addr} {o:Obj} {xs:List V} (e:H a=some (.frz o (.lst xs))):fQ K H (.ref a) (.type "list")
 | tup {a:Addr} {xs:List V} (e:H a=some (.tup xs)):fQ K H (.ref a) (.type "tuple")
 | dK {a:Addr} {kvs:List (dm×V)} (e:H a=some (.dK kvs)):fQ K H (.ref a) (.type "dict")
 | dT {a:Addr} {kvs:List (List dm×V)} (e:H a=some (.dT kvs)):fQ K H (.ref a) (.type "dict")
 | ins {a C dx:Addr} {fs:List (Str×V)} (e:H a=some (.ins C dx fs)) (cl:mB K C) (ha:PySem.W.findIn K (.ref C) "__class__"=some (some (.builtin "object.__class__")))
  (hn:PySem.W.specialIn K (.builtin "object.__class__") "__get__"=some (some (.builtin "getset_descriptor.__get__"))) (htk:PySem.W.takesIn K (.builtin "object.__class__")=some true)
  (hm:PySem.W.mroIn K C (.type "object")=some true):fQ K H (.ref a) (.ref C)
end
end L2
namespace L2
structure ba (k:Nat)(A:Around):Prop where
 hd:A.handled=none
 dp:A.depth+3*k+5<recursionLimit
 un:A.units+16*k+200<cLine
 gd:A.guards=some []
theorem ba.mono {j k:Nat}{A:Around}(r:ba k A)(h:j≤k):ba j A:=⟨r.hd,by have:=r.dp;omega,by have:=r.un;omega,r.gd⟩
theorem ba.deeper {k:Nat}{A:Around}(r:ba (k+1) A)(env:Env):ba k (A.deeper env):=
 ⟨r.hd,by have:=r.dp;show A.depth+1+3*k+5<_;omega,by have:=r.un;show A.units+3+16*k+200<_;omega,r.gd⟩
theorem ba.in1 {k:Nat}{A:Around}(r:ba (k+1) A):ba k A.in1:=
 ⟨r.hd,by have:=r.dp;show A.depth+3*k+5<_;omega,by have:=r.un;show A.units+1+16*k+200<_;omega,r.gd⟩
theorem EF {A:Around}{C:Addr}{us:List Value}{kw:List (Str×Value)}:(A.under (.builtin "type.__call__" ⟨.ref C::us,kw⟩)).depth=A.depth+1:=by
 first | rfl | simp[Around.under,Code.weight,Code.isCreation,Code.isGuard,Code.isCaller,Code.frames,Code.isFrame,guardIds]
theorem EH {A:Around}{C:Addr}{us:List Value}{kw:List (Str×Value)}:(A.under (.builtin "type.__call__" ⟨.ref C::us,kw⟩)).units=A.units+1:=by
 first | rfl | simp[Around.under,Code.cUnits,Code.frames,Code.isFrame]
theorem EG {A:Around}{C:Addr}{us:List Value}{kw:List (Str×Value)}(h:A.guards=some []):(A.under (.builtin "type.__call__" ⟨.ref C::us,kw⟩)).guards=some []:=by
 simp[Around.under,Code.guards,Code.isGuard,guardIds,pushGuards,h]
theorem ba.make {k:Nat}{A:Around}(r:ba (k+1) A)(C:Addr)(us:List Value)(kw:List (Str×Value)):ba k (A.under (.builtin "type.__call__" ⟨.ref C::us,kw⟩)):=
 ⟨r.hd,by have:=r.dp;rw[EF];omega,by have:=r.un;rw[EH];omega,EG r.gd⟩
theorem ba.depth {k:Nat}{A:Around}(r:ba k A):A.depth<recursionLimit:=by have:=r.dp;omega
theorem ba.units {k:Nat}{A:Around}(r:ba k A):A.units+64<cLine:=by have:=r.un;omega
def tF:TA:=fun _ H Q=>Q [] H
def o9 (ta:TE)(tr:TA):TA:=fun σ H Q=>ta σ H fun x H1=>tr σ H1 fun xs H2=>Q (x::xs) H2
section
variable {X:Cx}{e:Expr}{es:List Expr}{te:TE}{t:TA}{pos:Pos}
theorem pa_nil:PA X [] tF:=fun _ _ _ _ H Q I h=>Calls.spliced_nil ⟨[],H,I,.nil,h⟩
theorem pa_cons (ha:PE X e te)(hr:PA X es t)(hs:starEach (e::es) X.env=(false,eval e X.env)::starEach es X.env:=by rfl):PA X (e::es) (o9 te t):=by
 intro pos pins s σ H Q I h
 rw[hs]
 show wpAny _ _ (spliced ((false,eval e X.env)::backTo pos (starEach es X.env))) _ _ s
 refine Calls.spliced_cons (aI (ha pins s σ H _ I h) fun u s1 zpat=>?_)
 obtain⟨x,H1,I1,r1,q1⟩:=zpat
 exact aI (hr pos pins s1 σ H1 _ I1 q1) fun us s2 ⟨xs,H2,I2,r2,q2⟩=>⟨x::xs,H2,I2,.cons r1 r2,q2⟩
def JW (t:TA):TE:=fun σ H Q=>t σ H fun xs H1=>xs.length≤sizeLine∧∀ p,H1 p=none->Q (.ref p) (upd H1 p (.tup xs))
def JI (t:TA):TE:=fun σ H Q=>t σ H fun xs H1=>xs.length≤sizeLine∧∀ p,H1 p=none->Q (.ref p) (upd H1 p (.lst xs))
theorem GF {x1}(h:PA X es t):PE X (.Tuple es x1 pos) (JW t):=by
 intro pins s σ H Q I hq
 refine wpAny_Tuple_spliced (aI (h pos pins s σ H _ I hq) fun us s1 ⟨xs,H1,I1,r,z,q⟩=>⟨by rw[← r.length];exact z,?_⟩)
 have hf:H1 s1.heap.objs.size=none:=I1.hok.fresh (Nat.le_refl _)
 refine⟨.ref s1.heap.objs.size,upd H1 s1.heap.objs.size (.tup xs),I1.laid (t':=s1.toks) (fun b u e=>Heap.get?_push_of_some _ e) (Nat.le_refl _) ?_,rfl,q _ hf⟩
 exact⟨z,us,r,⟨_,Heap.get?_push_size _ rfl,rfl,_,rfl⟩⟩
theorem yK (h:PA X es t):PE X (.List es pos) (JI t):=by
 intro pins s σ H Q I hq
 refine wpAny_List_spliced (aI (h pos pins s σ H _ I hq) fun us s1 ⟨xs,H1,I1,r,z,q⟩=>⟨by rw[← r.length];exact z,?_⟩)
 have hf:H1 s1.heap.objs.size=none:=I1.hok.fresh (Nat.le_refl _)
 refine⟨.ref s1.heap.objs.size,upd H1 s1.heap.objs.size (.lst xs),I1.laid (t':=s1.toks) (fun b u e=>Heap.get?_push_of_some _ e) (Nat.le_refl _) ?_,rfl,q _ hf⟩
 exact ⟨z,us,0,r,Heap.get?_push_size _ rfl⟩
end
abbrev Sp:=List V->Hp->VK->XK->Prop
abbrev dU:=List Env->Hp->Shared->XK->Value->Shared->Prop
structure dH (P:Program)(w:World)(K:PySem.W.Frag)(mg:Str->Option Value)(base:Heap)(A:Around)(outer:List Env)(s:Shared)(H:Hp):Prop where
 frames:A.frames=some outer
 mod:Mod K mg base
 bs:∀ b o,base.get? b=some o->s.heap.get? b=some o∧H b=none
 bsz:base.objs.size≤s.heap.objs.size
 funs:s.heap.FunFrames base outer
 frf:∀ b∈cG outer,H b=none
 hok:cb P w H s.heap
 bare:AllBare s.gens
 tabs:qu P K mg base H
def CE (outer:List Env)(P:Program)(w:World)(H:Hp)(s:Shared)(Q:VK)(u:Value)(s':Shared):Prop:=
 ∃ v H',s'.os=s.os∧AllBare s'.gens∧Un (cG outer) [] H H' s.heap s'.heap∧cb P w H' s'.heap∧RelV v u∧Q v H'
def CR (CX:dU)(outer:List Env)(P:Program)(w:World)(H:Hp)(s:Shared)(Q:VK)(E:XK)(r:Result)(s':Shared):Prop:=
 match r with
 | .ok (.ret u)=>CE outer P w H s Q u s'
 | .ok _=>False
 | .error e=>CX outer H s E e s'
structure aS (P:Program)(w:World)(K:PySem.W.Frag)(mg:Str->Option Value)(base:Heap)(CX:dU)(k:Nat)(f:Addr)(fd:FuncData)(ps:List Str)(sp:Sp):Prop where
 len:∀ vs H Q E,sp vs H Q E->vs.length=ps.length
 run:∀ (A:Around) (outer:List Env) (s:Shared) (H:Hp) (args:Args) (us:List Value) (vs:List V) (Q:VK) (E:XK),ba k A->dH P w K mg base A outer s H->BindsTo s fd args (ps.zip us)->aG vs us->sp vs H Q E ->
  codeAny (model P w) A (.call (.ref f) args) (CR CX outer P w H s Q E) s
theorem aS.mono {P:Program}{w:World}{K:PySem.W.Frag}{mg:Str->Option Value}{base:Heap}{CX:dU}{j k:Nat}{f:Addr}{fd:FuncData}{ps:List Str}{sp:Sp}(F:aS P w K mg base CX j f fd ps sp)(h:j≤k) :
 aS P w K mg base CX k f fd ps sp:=⟨F.len,fun A outer s H args us vs Q E hr=>F.run A outer s H args us vs Q E (hr.mono h)⟩
theorem aS.imp {P:Program}{w:World}{K:PySem.W.Frag}{mg:Str->Option Value}{base:Heap}{CX:dU}{k:Nat}{f:Addr}{fd:FuncData}{ps:List Str}{sp sp':Sp}(F:aS P w K mg base CX k f fd ps sp)
  (h:∀ vs H Q E,sp' vs H Q E->sp vs H Q E):aS P w K mg base CX k f fd ps sp':=
 ⟨fun vs H Q E q=>F.len vs H Q E (h _ _ _ _ q),fun A outer s H args us vs Q E hr he hb hv hs=>F.run A outer s H args us vs Q E hr he hb hv (h _ _ _ _ hs)⟩
theorem dH.make {P:Program}{w:World}{K:PySem.W.Frag}{mg:Str->Option Value}{base:Heap}{A:Around}{outer:List Env}{s:Shared}{H:Hp}(e:dH P w K mg base A outer s H)(C:Addr)(us:List Value)(kw:List (Str×Value)) :
 dH P w K mg base (A.under (.builtin "type.__call__" ⟨.ref C::us,kw⟩)) outer s H:=⟨by first | exact e.frames | (simpa [Around.under,Code.envs,Code.isFrame,pushEnvs] using e.frames),e.mod,e.bs,e.bsz,e.funs,e.frf,e.hok,e.bare,e.tabs⟩
theorem dH.in1 {P:Program}{w:World}{K:PySem.W.Frag}{mg:Str->Option Value}{base:Heap}{A:Around}{outer:List Env}{s:Shared}{H:Hp}(e:dH P w K mg base A outer s H) :
 dH P w K mg base A.in1 outer s H:=⟨e.frames,e.mod,e.bs,e.bsz,e.funs,e.frf,e.hok,e.bare,e.tabs⟩
section
variable {X:Cx}{pins:List (Addr×Obj)}{σ:St}{H:Hp}{s s':Shared}
theorem Inv.env0 (I:Inv X pins σ H s):dH X.prog X.w X.K X.mg X.base X.A X.stack s H:=
 ⟨I.ok.frames,I.ok.mod,I.bs,Nat.le_trans I.ok.bsz I.sz,I.stack,I.stkFree,I.hok,I.bare,fun x c p h1 h2=>let z:=I.ok.tabs x c p h1 h2;⟨I.base.tabs p z.1,z.2⟩⟩
theorem Inv.after {Q:VK}{u:Value}(I:Inv X pins σ H s)(h:CE X.stack X.prog X.w H s Q u s'):EP X pins σ Q u s':=by
 obtain⟨v,H',os,bare,un,hok,r,q⟩:=id h
 obtain⟨hh,g,d,t,os'⟩:=s'
 obtain rfl:os'=s.os:=os
 exact⟨v,H',I.call (h':=hh) (g':=g) (d':=d) (t':=t) (ch:=[]) un hok bare (fun b z=>absurd z (by simp)),r,q⟩
end
def Jy (sp:Sp)(dvs:List V)(E:XK)(t:TA):TE:=fun σ H Q=>t σ H fun vs H1=>sp (vs++dvs) H1 Q E
def Binds (K:PySem.W.Frag)(fd:FuncData)(ps:List Str)(ds:List Value):Prop:=
 ∀ (s:Shared) (us:List Value),K.In s.heap->(us++ds).length=ps.length->BindsTo s fd ⟨us,[]⟩ (ps.zip (us++ds))
theorem Binds.all {K:PySem.W.Frag}{fd:FuncData}{ps:List Str}(h:∀ us:List Value,us.length=ps.length->bindArgs fd ⟨us,[]⟩=pure (ps.zip us)):Binds K fd ps []:=fun s us _ hl=>by
 rw[List.append_nil] at hl ⊢
 exact .of_eq (h us hl)
def qj (CX:dU)(X:Cx)(E:XK):Prop:=∀ (pins:List (Addr×Obj)) (σ:St) (H:Hp) (s:Shared) (e:Value) (s':Shared),Inv X pins σ H s->CX X.stack H s E e s'->X.xe e s'
section
variable {X:Cx}{CX:dU}{k:Nat}{f C:Addr}{fd:FuncData}{ps:List Str}{sp:Sp}{dvs:List V}{ds:List Value}{E:XK}{x m:Str}{p pos apos:Pos}{e o:Expr}{es:List Expr}{ta:TE}{t:TA}
theorem Iy {pins:List (Addr×Obj)}{σ:St}{H:Hp}{s:Shared}{Q:VK}{us:List Value}{vs:List V}(F:aS X.prog X.w X.K X.mg X.base CX k f fd ps sp)(hr:ba k X.A)(hb:Binds X.K fd ps ds)(hd:aG dvs ds)(hx:qj CX X E)
  (I:Inv X pins σ H s) (r:aG vs us) (h:sp (vs++dvs) H Q E):wpAny (model X.prog X.w) X.A (call (.ref f) us) (EP X pins σ Q) X.xe s:=by
 have r2:aG (vs++dvs) (us++ds):=r.append hd
 have hl:(us++ds).length=ps.length:=by rw[← r2.length];exact F.len _ _ _ _ h
 refine wpAny_call (codeAny_mono (F.run X.A X.stack s H ⟨us,[]⟩ (us++ds) (vs++dvs) Q E hr I.env0 (hb s us I.kIn hl) r2 h) fun r s' hq=>?_)
 cases r with
 | error e=>exact hx pins σ H s e s' I hq
 | ok fl=>
  cases fl with
  | ret u=>exact I.after hq
  | next=>exact False.elim hq
  | brk=>exact False.elim hq
  | cont=>exact False.elim hq
theorem se (F:aS X.prog X.w X.K X.mg X.base CX k f fd ps sp)(hr:ba k X.A)(hg:Gl X x)(hm:X.mg x=some (.ref f))(hk:PySem.W.keepIn X.K (.ref f)=true)(hb:Binds X.K fd ps ds)(hd:aG dvs ds)(hx:qj CX X E)
  (ha:PA X (e::es) t) (hdb:(x==("__debug__":Str))=false:=by decide) (he:starEach (e::es) X.env=(false,eval e X.env)::starEach es X.env:=by rfl) (hpl:(backTo pos (starEach es X.env)).any (·.1)=false:=by rfl) :
  PE X (.Call (.Name x p) (e::es) [] pos) (Jy sp dvs E t):=by
 intro pins s σ H Q I h
 refine wpAny_Call_Name_kw (jx I hg hm ?_ hdb)
 refine PySem.W.callWith_K (h₀:=X.base) I.ok.mod.kin hk (aI (ha pos pins s σ H _ I h) fun us s1 ⟨vs,H1,I1,r,q⟩=>⟨I1.kIn,?_⟩) he hpl
 exact Iy F hr hb hd hx I1 r q
structure Mk (K:PySem.W.Frag)(C f:Addr):Prop where
 makes:PySem.W.makesIn K C=true
 init:PySem.W.findIn K (.ref C) "__init__"=some (some (.ref f))
 fn:PySem.W.isFn K (.ref f)=true
 kp:PySem.W.keepIn K (.ref C)=true
end
section
variable {X:Cx}{CX:dU}{k:Nat}{f C:Addr}{fd:FuncData}{ps ks:List Str}{sp:Sp}{E:XK}{x m:Str}{p pos apos kpos:Pos}{e o:Expr}{es:List Expr}{kws:List Keyword}{te ta:TE}{t tk:TA}{nm:Option Str}
structure KD (K:PySem.W.Frag)(fd:FuncData)(ps ks:List Str)(g:List Value->List Value->List Value)(gV:List V->List V->List V):Prop where
 to:∀ (s:Shared) (us ws:List Value),K.In s.heap->(g us ws).length=ps.length->BindsTo s fd ⟨us,ks.zip ws⟩ (ps.zip (g us ws))
 rel:∀ {vs:List V} {us:List Value} {zs:List V} {ws:List Value},aG vs us->aG zs ws->aG (gV vs zs) (g us ws)
variable {g:List Value->List Value->List Value}{gV:List V->List V->List V}
end
structure bp (N P:List Str)(sc:Scope):Prop where
 kind:sc.kind=.function
 co:sc.isCoroutine=false
 gen:sc.isGenerator=false
 nd:N.Nodup
 pre:N.take P.length=P
 par:∀ x∈P,sc.names.lookup x=some .local∨sc.names.lookup x=some .cell
 nofree:∀ y∈sc.names,y.2≠.free
theorem vt {kindOf:Str->Option NameKind}{x:Str}:∀ {binds:List (Str×Value)} {m:Str->Option Value},(∀ v,(x,v)∉binds)->bindL kindOf binds m x=m x
 | [],_,_=>rfl
 | (n,v)::r,m,h=>by
  unfold bindL
  rw[vt fun w hw=>h w (List.mem_cons_of_mem _ hw)]
  split
  ·have:x≠n:=by rintro rfl;exact h v List.mem_cons_self
   simp[this]
  ·rfl
theorem vo {kindOf:Str->Option NameKind}{x:Str}:∀ {binds:List (Str×Value)} {m:Str->Option Value},(∀ v,(x,v)∉binds)->bindC kindOf binds m x=m x
 | [],_,_=>rfl
 | (n,v)::r,m,h=>by
  unfold bindC
  rw[vo fun w hw=>h w (List.mem_cons_of_mem _ hw)]
  split
  ·rfl
  ·have:x≠n:=by rintro rfl;exact h v List.mem_cons_self
   simp[this]
theorem vq {kindOf:Str->Option NameKind}{x:Str}{v:Value}:∀ {P:List Str} {vs:List Value} {i:Nat} {m:Str->Option Value},P.Nodup->P[i]?=some x->vs[i]?=some v->kindOf x=some .local ->
  bindL kindOf (P.zip vs) m x=some v
 | [],_,_,_,_,h,_,_=>by simp at h
 | _::_,[],_,_,_,_,h,_=>by simp at h
 | p::P,w::vs,0,m,nd,h1,h2,hk=>by
  simp at h1 h2;subst h1;subst h2
  show bindL kindOf ((p,w)::P.zip vs) m p=_
  unfold bindL
  rw[vt fun v hv=>(List.nodup_cons.mp nd).1 (List.of_mem_zip hv).1,if_pos hk]
  simp
 | p::P,w::vs,i+1,m,nd,h1,h2,hk=>by
  show bindL kindOf ((p,w)::P.zip vs) m x=_
  unfold bindL
  exact vq (i:=i) (List.nodup_cons.mp nd).2 (by simpa using h1) (by simpa using h2) hk
theorem vn {kindOf:Str->Option NameKind}{x:Str}{v:Value}:∀ {P:List Str} {vs:List Value} {i:Nat} {m:Str->Option Value},P.Nodup->P[i]?=some x->vs[i]?=some v->kindOf x≠some .local ->
  bindC kindOf (P.zip vs) m x=some v
 | [],_,_,_,_,h,_,_=>by simp at h
 | _::_,[],_,_,_,_,h,_=>by simp at h
 | p::P,w::vs,0,m,nd,h1,h2,hk=>by
  simp at h1 h2;subst h1;subst h2
  show bindC kindOf ((p,w)::P.zip vs) m p=_
  unfold bindC
  rw[vo fun v hv=>(List.nodup_cons.mp nd).1 (List.of_mem_zip hv).1,if_neg hk]
  simp
 | p::P,w::vs,i+1,m,nd,h1,h2,hk=>by
  show bindC kindOf ((p,w)::P.zip vs) m x=_
  unfold bindC
  exact vn (i:=i) (List.nodup_cons.mp nd).2 (by simpa using h1) (by simpa using h2) hk
def start (N:List Str)(vs:List V):St:=vs.map some++List.replicate (N.length - vs.length) none
def cV (CX:dU)(P:Program)(w:World)(K:PySem.W.Frag)(mg:Str->Option Value)(base:Heap)(N:List Str)(qual:Str)(scope:Scope)(f:Addr)(cd:Value)(A:Around)(outer:List Env)(s:Shared)(H:Hp)(E:XK):Cx where
 prog:=P
 w:=w
 K:=K
 mg:=mg
 base:=base
 A:=A.deeper (envOfC qual scope s.heap.objs.size f cd)
 N:=N
 s₀:=s
 H₀:=H
 env:=envOfC qual scope s.heap.objs.size f cd
 outer:=outer
 stack:=envOfC qual scope s.heap.objs.size f cd::outer
 ex:=[]
 calm:=true
 fn:=fun _=>true
 pn:=[]
 xe:=fun e s'=>wpAny (model P w) (A.deeper (envOfC qual scope s.heap.objs.size f cd)) (leaving (envOfC qual scope s.heap.objs.size f cd) e) (fun _ s''=>CX outer H s E e s'') (fun e' s''=>CX outer H s E e' s'') s'
theorem vF {sc:Scope}{n:Nat}{x:Str}(h:sc.names.lookup x=some .cell):∃ c,(cellsFrom n sc.names []).lookup x=some c:=by
 have q:=PySem.W.cellsFrom_some sc.names n [] (.inl h)
 exact Option.isSome_iff_exists.mp q
theorem wR {CX:dU}{P:Program}{w:World}{K:PySem.W.Frag}{mg:Str->Option Value}{base:Heap}{N ps:List Str}{qual:Str}{scope:Scope}{f:Addr}{cd:Value}{A:Around}{outer:List Env}{s s1:Shared}{H:Hp}{E:XK}{us:List Value}{vs:List V}
  (S:bp N ps scope) (hd:A.handled=none) (e0:dH P w K mg base A outer s H) (hl:vs.length=ps.length) (r:aG vs us)
  (x:InCallC s s.heap.objs.size (bindL (envOfC qual scope s.heap.objs.size f cd).kindOf (ps.zip us) fun _=>none) (cellsFrom (s.heap.objs.size+1) scope.names []) (bindC (envOfC qual scope s.heap.objs.size f cd).kindOf (ps.zip us) fun _=>none) s1) :
  Inv (cV CX P w K mg base N qual scope f cd A outer s H E) [] (start N vs) H s1:=by
 have hpl:ps.length≤N.length:=by have:=congrArg List.length S.pre;rw[List.length_take] at this;omega
 obtain⟨h1,tk,zq2,hk⟩:=x.done
 subst zq2
 have noA:∀ b:Addr,b∉(cV CX P w K mg base N qual scope f cd A outer s H E).ex:=fun b z=>absurd (show b∈([]:List Addr) from z) (by simp)
 refine⟨⟨e0.mod,S.kind,rfl,rfl,Nat.le_refl _,fun y z c h1 h2=>?_,fun y hy=>?_,fun y c _ h=>?_,fun _=>hd,Around.frames_deeper e0.frames,.inr ⟨rfl,rfl⟩,fun b z=>absurd z (noA b),e0.bs,e0.bsz,fun b _ _=>noA b,fun b z=>absurd z (noA b),e0.funs,e0.frf,e0.tabs⟩,
  rfl,e0.bare,Un.kept hk,⟨_,x.toInCall.ns,fun i y v h1 h2 h3=>?_⟩,fun y c h=>⟨_,x.cell y c h⟩,e0.hok.fresh (Nat.le_refl _),fun y c h=>?_,fun p hp=>absurd (show p∈([]:List (Addr×Obj)) from hp) (by simp),e0.hok.kept hk,?_⟩
 ·exact name_of_addr x.apart (PySem.mem_of_lookup h1) (PySem.mem_of_lookup h2)
 ·have hy:scope.names.lookup y=some .cell∨scope.names.lookup y=some .free:=hy
  rcases hy with hy | hy
  ·exact vF hy
  ·exact absurd rfl (S.nofree _ (PySem.mem_of_lookup hy))
 ·exact Nat.le_of_lt (x.above y c (PySem.mem_of_lookup h))
 ·have hi:i<vs.length:=by
   unfold start at h2
   by_cases hi:i<vs.length
   ·exact hi
   ·rw[List.getElem?_append_right (by simpa using hi)] at h2
    rw[List.getElem?_replicate] at h2
    split at h2 <;> cases h2
  have ha:vs[i]?=some v:=by
   unfold start at h2
   rw[List.getElem?_append_left (by simpa using hi),List.getElem?_map] at h2
   cases e:vs[i]? with
   | none=>rw[e] at h2;cases h2
   | some a=>rw[e] at h2;cases h2;rfl
  obtain⟨u,hu,rv⟩:=r.get ha
  have hp:ps[i]?=some y:=by
   rw[← S.pre,List.getElem?_take_of_lt (by omega)];exact h1
  have ndP:ps.Nodup:=by rw[← S.pre];exact S.nd.sublist (List.take_sublist _ _)
  refine⟨u,rv,?_⟩
  rcases S.par y (List.mem_of_getElem? hp) with k | k
  ·exact .inl ⟨k,vq ndP hp hu k⟩
  ·obtain⟨c,e⟩:=vF (n:=s.heap.objs.size+1) k
   refine .inr ⟨.inl k,c,e,?_⟩
   have q:=x.cell y c e
   rw[vn ndP hp hu (by show scope.names.lookup y≠_;rw[k];decide)] at q
   exact q
 ·exact .inl (e0.hok.fresh (Nat.le_of_lt (x.above y c (PySem.mem_of_lookup h))))
 ·unfold start
  show _=N.length
  rw[List.length_append,List.length_map,List.length_replicate]
  omega
theorem qZ {CX:dU}{P:Program}{w:World}{K:PySem.W.Frag}{mg:Str->Option Value}{base:Heap}{k:Nat}{f:Addr}{name qual:Str}{params:Arguments}{body:List Stmt}{scope:Scope}{dV kV doc pm cdv ct oc:Value}{an od:Option Addr}
  {osl:Array (Option Value)} {N ps:List Str} {sp:Sp} (lk:K.lookup f=some ⟨oc,od,.func (PySem.W.fnOf name qual params body scope dV kV doc pm an cdv ct),osl⟩) (hcd:PySem.W.codeIn K cdv qual=true) (S:bp N ps scope)
  (len:∀ vs H Q E,sp vs H Q E->vs.length=ps.length)
  (hbody:∀ (A:Around) (outer:List Env) (s:Shared) (H:Hp) (vs:List V) (Q:VK) (E:XK),ba k (A.deeper (envOfC qual scope s.heap.objs.size f cdv))->sp vs H Q E ->
   ∃ t,cT (cV CX P w K mg base N qual scope f cdv A outer s H E) body t∧t {nx:=fun _ H'=>Q .non H',rt:=Q} (start N vs) H) :
  aS P w K mg base CX (k+1) f (PySem.W.fnOf name qual params body scope dV kV doc pm an cdv ct) ps sp:=by
 refine⟨len,fun A outer s H args us vs Q E hr e0 hb r hsp=>?_⟩
 have hl:=len _ _ _ _ hsp
 have KX:K.In s.heap:=e0.mod.kin.keeps fun b o e=>(e0.bs b o e).1
 have lim:s.heap.NoLimit:=e0.mod.nolimit.keeps fun b o e=>(e0.bs b o e).1
 have hkind:∀ y∈ps.zip us,scope.names.lookup y.1=some .local∨(scope.names.lookup y.1=some .cell∧((cellsFrom (s.heap.objs.size+1) scope.names []).lookup y.1).isSome=true):=fun ⟨n,v⟩ hy=>by
  rcases S.par n (List.of_mem_zip hy).1 with q | q
  ·exact .inl q
  ·exact .inr ⟨q,PySem.W.cellsFrom_some _ _ _ (.inl q)⟩
 refine codeAny_call_function hr.depth (KX _ _ lk) rfl S.co S.gen rfl (PySem.W.codeRec_of KX hcd) (hb _ _ _ _ ?_)
 refine wpAny_newFunctionEnv_cells S.kind hkind fun env he s1 x=>?_
 subst he
 refine⟨lim.keeps x.toInCall.keep,codeAny_func ?_⟩
 obtain⟨t,ht,hq⟩:=hbody A outer s H vs Q E (hr.deeper _) hsp
 have I:Inv (cV CX P w K mg base N qual scope f cdv A outer s H E) [] (start N vs) H s1:=wR S hr.hd e0 hl r x
 refine wpAny_mono (ht [] s1 (start N vs) H _ I hq) (fun fl s' hs=>?_) fun e s' hs=>hs
 have fin:∀ {σ':St} {H':Hp} {v:V} {u:Value},Inv (cV CX P w K mg base N qual scope f cdv A outer s H E) [] σ' H' s'->RelV v u->Q v H'->CE outer P w H s Q u s':=
  fun {σ' H' v u} J rv q=>⟨v,H',J.os,J.bare,J.base,J.hok,rv,q⟩
 cases fl with
 | ret u=>
  obtain⟨v,σ',H',J,rv,q⟩:=id hs
  exact fin J rv q
 | next=>
  obtain⟨σ',H',J,q⟩:=id hs
  exact fin (v:=V.non) (u:=Value.none) J rfl q
 | brk=>
  obtain⟨_,_,_,q⟩:=id hs
  exact False.elim q
 | cont=>
  obtain⟨_,_,_,q⟩:=id hs
  exact False.elim q
end L2
namespace L2
section
variable {X:Cx}{x:Str}{p pos:Pos}{e:Expr}{es:List Expr}{t:TA}{id T:String}{r:List V->Hp->VK->Prop}
def tu (r:List V->Hp->VK->Prop)(t:TA):TE:=fun σ H Q=>t σ H fun vs H1=>r vs H1 Q
theorem jC (hc:dz X (.builtin id) r)(hg:Gl X x)(hm:X.mg x=none)(hv:bootBuiltins x=some (.builtin id))(ha:PA X (e::es) t)(hn:x≠"__name__":=by decide)(hdb:(x==("__debug__":Str))=false:=by decide)
  (he:starEach (e::es) X.env=(false,eval e X.env)::starEach es X.env:=by rfl) (hpl:(backTo pos (starEach es X.env)).any (·.1)=false:=by rfl):PE X (.Call (.Name x p) (e::es) [] pos) (tu r t):=by
 intro pins s σ H Q I h
 refine wpAny_Call_Name_kw (iX I hg hm hv ?_ hn hdb)
 exact PyProof.Rows.callWith_builtin1 (aI (ha pos pins s σ H _ I h) fun us s1 ⟨vs,H1,I1,r1,q1⟩=>hc pins s1 σ H1 vs us Q I1 r1 q1) he hpl
theorem yE (hc:dz X (.type T) r)(hg:Gl X x)(hm:X.mg x=none)(hv:bootBuiltins x=some (.type T))(ha:PA X (e::es) t)(hn:x≠"__name__":=by decide)(hdb:(x==("__debug__":Str))=false:=by decide)
  (he:starEach (e::es) X.env=(false,eval e X.env)::starEach es X.env:=by rfl) (hpl:(backTo pos (starEach es X.env)).any (·.1)=false:=by rfl):PE X (.Call (.Name x p) (e::es) [] pos) (tu r t):=by
 intro pins s σ H Q I h
 refine wpAny_Call_Name_kw (iX I hg hm hv ?_ hn hdb)
 exact PyProof.Rows.callWith_type1 (aI (ha pos pins s σ H _ I h) fun us s1 ⟨vs,H1,I1,r1,q1⟩=>hc pins s1 σ H1 vs us Q I1 r1 q1) he hpl
end
end L2
namespace HT
open PySem PyProof.Rows
section
open PySem.SeqAt
open PySem.AutoSeq1 (wpAny_loadPart')
open PySem.MeetsSeq PySem.MeetsSeq2 PySem.MeetsSeq3
end
section
variable {prog:Program}{w:World}{A:Around}{E:Value->Shared->Prop}{s:Shared}
def sIx (n d:Nat):Option Int->Nat
 | none=>d
 | some v=>if v<0 then (v+(n:Int)).toNat else min v.toNat n
theorem sIx_nat (n d k:Nat):sIx n d (some (k:Int))=min k n:=by
 show (if (k:Int)<0 then ((k:Int)+(n:Int)).toNat else min (k:Int).toNat n)=min k n
 rw[if_neg (by omega),Int.toNat_natCast]
end
end HT
namespace L2
abbrev TO:=St->Hp->(Option Int->Hp->Prop)->Prop
def PO (X:Cx)(e:Option Expr)(t:TO):Prop:=
 ∀ (pins:List (Addr×Obj)) (s:Shared) (σ:St) (H:Hp) (Q:Option Int->Hp->Prop),Inv X pins σ H s->t σ H Q ->
  wpAny (model X.prog X.w) X.A (evalPart e X.env) (fun u s'=>∃ o H',Inv X pins σ H' s'∧IsPart u o∧Q o H') X.xe s
def JK:TO:=fun _ H Q=>Q none H
def JP (t:TE):TO:=fun σ H Q=>t σ H fun x H1=>∃ i,x=.int i∧Q (some i) H1
theorem intsAre_of {ns:List Int}:∀ {us:List Value},aG (ns.map V.int) us->IntsAre us ns:=by
 induction ns with
 | nil=>intro us r;rw[List.map_nil] at r;cases r;exact .nil
 | cons n ns ih=>
  intro us r
  rw[List.map_cons] at r
  cases r with
  | cons r1 r2=>
   obtain⟨t,e⟩:=id r1
   subst e
   exact .cons n t (ih r2)
section
variable {X:Cx}{e:Expr}{te:TE}{lo hi:Option Expr}{tl th:TO}{pos p2:Pos}
theorem GW:PO X none JK:=by
 intro pins s σ H Q I h
 rw[evalPart_none]
 exact wpAny_pure ⟨none,H,I,.none,h⟩
theorem GY (h:PE X e te):PO X (some e) (JP te):=by
 intro pins s σ H Q I hw
 rw[evalPart_some]
 refine aI (h pins s σ H _ I hw) fun u s1 zpat=>?_
 obtain⟨x,H1,I1,r1,q1⟩:=zpat
 revert q1
 refine fun zqq=>L2.iZ zqq fun i zq1 q=>?_
 clear zqq
 subst zq1
 revert r1
 refine fun zqq=>L2.c5 zqq fun t zq1=>?_
 clear zqq
 subst zq1
 exact ⟨some i,H1,I1,.int i t,q⟩
def j5 (X:Cx)(r:V->Option Int->Option Int->Hp->VK->Prop):Prop:=
 ∀ (pins:List (Addr×Obj)) (s:Shared) (σ:St) (H:Hp) (x:V) (v vl vu:Value) (lo hi:Option Int) (sl:Addr) (Q:VK),Inv X pins σ H s->RelV x v->s.heap.IsSliceOf sl vl vu .none->IsPart vl lo->IsPart vu hi->r x lo hi H Q ->
  ∃ T id,typeLookup (.type T) "__getitem__"=pure (some (.builtin id))∧s.TypeIs v T∧wpAny (model X.prog X.w) X.A (getItem v (.ref sl)) (EP X pins σ Q) X.xe s
theorem j5.or {r r':V->Option Int->Option Int->Hp->VK->Prop}(h:j5 X r)(h':j5 X r'):j5 X (fun x lo hi H Q=>r x lo hi H Q∨r' x lo hi H Q):=by
 intro pins s σ H x v vl vu lo hi sl Q I rx hs pl pu q
 rcases q with q | q
 ·exact h pins s σ H x v vl vu lo hi sl Q I rx hs pl pu q
 ·exact h' pins s σ H x v vl vu lo hi sl Q I rx hs pl pu q
def JU (r:V->Option Int->Option Int->Hp->VK->Prop)(te:TE)(tl th:TO):TE:=fun σ H Q=>te σ H fun x H1=>tl σ H1 fun l H2=>th σ H2 fun u H3=>r x l u H3 Q
theorem GD {r:V->Option Int->Option Int->Hp->VK->Prop}(hr:j5 X r)(he:PE X e te)(hl:PO X lo tl)(hu:PO X hi th):PE X (.Subscript e (.Slice lo hi none p2) pos) (JU r te tl th):=by
 intro pins s σ H Q I h
 refine Subscript_ (aI (he pins s σ H _ I h) fun v s1 zpat=>?_)
 obtain⟨x,H1,I1,r1,q1⟩:=zpat
 refine wpAny_Slice (aI (hl pins s1 σ H1 _ I1 q1) fun vl s2 ⟨l,H2,I2,pl,q2⟩=>aI (hu pins s2 σ H2 _ I2 q2) fun vu s3 zpat=>?_)
 obtain⟨u,H3,I3,pu,q3⟩:=zpat
 rw[evalPart_none]
 refine wpAny_pure ?_
 have I4:Inv X pins σ H3 {s3 with heap:=s3.heap.push {cls:=.type "slice",data:=.fields #[vl,vu,.none]}}:=I3.kept (t':=s3.toks) fun b ob q=>Heap.get?_push_of_some _ q
 obtain⟨T,id,hT,ht,hg⟩:=hr pins {s3 with heap:=s3.heap.push {cls:=.type "slice",data:=.fields #[vl,vu,.none]}} σ H3 x v vl vu l u s3.heap.objs.size Q I4 r1 (Heap.IsSliceOf.new ..) pl pu q3
 show wpAny (model X.prog X.w) X.A (subscriptTail e (.Slice lo hi none p2) v (.ref s3.heap.objs.size)) (EP X pins σ Q) X.xe {s3 with heap:=s3.heap.push {cls:=.type "slice",data:=.fields #[vl,vu,.none]}}
 exact tail_any (ops:=[.ref s3.heap.objs.size,v]) ht hT hg (by with_unfolding_all rfl)
def lG (xs:List V)(lo hi:Option Int):List V:=(xs.drop (HT.sIx xs.length 0 lo)).take (HT.sIx xs.length xs.length hi - HT.sIx xs.length 0 lo)
theorem Co (xs:List V)(lo hi:Option Int):(lG xs lo hi).length≤xs.length:=by
 unfold lG
 rw[List.length_take,List.length_drop]
 omega
end
end L2
namespace L2
def dD (n:Nat)(i:Int):Option Nat:=if 0≤i then (if i<n then some i.toNat else none) else if -(n:Int)≤i then some (i+n).toNat else none
def atI {α:Type}(xs:List α)(i:Int):Option α:=(dD xs.length i).bind fun j=>xs[j]?
theorem Ed {n:Nat}{i:Int}{j:Nat}(h:dD n i=some j):seqIndex? i n=some j∧j<n∧-(n:Int)≤i∧i<n:=by
 unfold dD at h
 by_cases h0:0≤i
 ·rw[if_pos h0] at h
  by_cases h1:i<n
  ·rw[if_pos h1] at h
   have e:i.toNat=j:=Option.some.inj h
   exact⟨by rw[seqIndex_of h0 h1,e],by omega,by omega,h1⟩
  ·rw[if_neg h1] at h;cases h
 ·rw[if_neg h0] at h
  by_cases h1:-(n:Int)≤i
  ·rw[if_pos h1] at h
   have e:(i+n).toNat=j:=Option.some.inj h
   exact⟨by rw[seqIndex_neg (by omega) h1,e],by omega,h1,by omega⟩
  ·rw[if_neg h1] at h;cases h
theorem vi {α:Type}{xs:List α}{i:Int}{v:α}(h:atI xs i=some v):∃ j,seqIndex? i xs.length=some j∧xs[j]?=some v∧j<xs.length∧-(xs.length:Int)≤i∧i<xs.length:=by
 unfold atI at h
 cases e:dD xs.length i with
 | none=>rw[e] at h;cases h
 | some j=>
  rw[e] at h
  obtain⟨h1,h2,h3,h4⟩:=Ed e
  exact⟨j,h1,h,h2,h3,h4⟩
theorem ka {α:Type}{xs:List α}{j:Nat}{v:α}(h:xs[j]?=some v):atI xs (j:Int)=some v:=by
 have hj:j<xs.length:=(List.getElem?_eq_some_iff.mp h).1
 have e:dD xs.length (j:Int)=some j:=by
  unfold dD
  rw[if_pos (by omega),if_pos (by omega)];simp
 unfold atI;rw[e];exact h
def uL (b:Expr):Prop:=∀ o i,subscripted b false o i=operate [o,i] (getItem o i)
def jh (X:Cx)(r:R2):Prop:=
 ∀ (value slice:Expr) (pins:List (Addr×Obj)) (s:Shared) (σ:St) (H:Hp) (x y:V) (v u:Value) (Q:VK),Inv X pins σ H s->RelV x v->RelV y u->r x y H Q ->
  subscripted slice false v u=operate [v,u] (getItem v u)->wpAny (model X.prog X.w) X.A (subscriptTail value slice v u) (EP X pins σ Q) X.xe s
def j3 (X:Cx)(id:String)(r:V->List V->Hp->VK->Prop):Prop:=
 ∀ (pins:List (Addr×Obj)) (s:Shared) (σ:St) (H:Hp) (x:V) (xs:List V) (v:Value) (us:List Value) (Q:VK),Inv X pins σ H s->RelV x v->aG xs us->r x xs H Q ->
  wpAny (model X.prog X.w) X.A (call (.builtin id) (v::us)) (EP X pins σ Q) X.xe s
section
variable {X:Cx}{a b:Expr}{ta tb:TE}{pos:Pos}
theorem jh.or {r r':R2}(h:jh X r)(h':jh X r'):jh X (fun x y H Q=>r x y H Q∨r' x y H Q):=by
 intro value slice pins s σ H x y v u Q I rx ry q hs
 rcases q with q | q
 ·exact h value slice pins s σ H x y v u Q I rx ry q hs
 ·exact h' value slice pins s σ H x y v u Q I rx ry q hs
theorem j3.or {id:String}{r r':V->List V->Hp->VK->Prop}(h:j3 X id r)(h':j3 X id r'):j3 X id (fun x xs H Q=>r x xs H Q∨r' x xs H Q):=by
 intro pins s σ H x xs v us Q I rx rs q
 rcases q with q | q
 ·exact h pins s σ H x xs v us Q I rx rs q
 ·exact h' pins s σ H x xs v us Q I rx rs q
theorem Gy {r:R2}(hr:jh X r)(ha:PE X a ta)(hb:PE X b tb)(hs:uL b):PE X (.Subscript a b pos) (kM r ta tb):=by
 intro pins s σ H Q I h
 exact Subscript_ (qL ha hb I h fun v u s2 x y H2 I2 rx ry q=>hr a b pins s2 σ H2 x y v u Q I2 rx ry q (hs _ _))
def zb (K:PySem.W.Frag):R2:=fun x y H Q=>∃ p xs i v,x=.ref p∧y=.int i∧aN K H p xs∧atI xs i=some v∧Q v H
def zc (K:PySem.W.Frag):R2:=fun x y H Q=>∃ p xs i v,x=.ref p∧y=.int i∧cn K H p xs∧atI xs i=some v∧Q v H
theorem Ef:jh X (zb X.K):=by
 intro value slice pins s σ H x y v u Q I rx ry h hs
 revert h
 refine fun zqq=>L2.yq zqq fun p xs i z zq4 zq5 hq he q=>?_
 clear zqq
 subst zq4
 subst zq5
 cases rx
 revert ry
 refine fun zqq=>L2.c5 zqq fun t zq1=>?_
 clear zqq
 subst zq1
 obtain⟨its,r,pl,hz⟩:=I.list hq
 obtain⟨j,h1,h2,h3,h4,h5⟩:=vi he
 obtain⟨w,ew,rw'⟩:=r.get h2
 have hl:=r.length
 have hn:=rH
 have fin:EP X pins σ Q w s:=⟨z,H,I,rw',q⟩
 by_cases h0:0≤i
 ·have hj:i.toNat=j:=by
   rw[seqIndex_of h0 h5] at h1
   exact Option.some.inj h1
  exact item_listR pl.isList h0 (by omega) (by rw[hj];simpa using ew) fin hs
 ·have hj:(i+(its.toArray.size:Int)).toNat=j:=by
   rw[seqIndex_neg (by omega) h4] at h1
   rw[List.size_toArray,← hl]
   exact Option.some.inj h1
  exact subscriptTail_builtinR (x:=w) pl.isList.typeIs slot_list_getitem.lookup
   (wpAny_getItem_list_neg (Q:=fun r s'=>r=w∧EP X pins σ Q r s') pl.isList (by omega) (by rw[List.size_toArray] <;> omega) (by omega) (by rw[hj];simpa using ew) ⟨rfl,fin⟩) hs
theorem Eg:jh X (zc X.K):=by
 intro value slice pins s σ H x y v u Q I rx ry h hs
 revert h
 refine fun zqq=>L2.yq zqq fun p xs i z zq4 zq5 hq he q=>?_
 clear zqq
 subst zq4
 subst zq5
 cases rx
 revert ry
 refine fun zqq=>L2.c5 zqq fun t zq1=>?_
 clear zqq
 subst zq1
 obtain⟨its,r,pl,hz⟩:=I.tuple hq
 obtain⟨j,h1,h2,h3,h4,h5⟩:=vi he
 obtain⟨w,ew,rw'⟩:=r.get h2
 have hl:=r.length
 have hn:=rH
 have fin:EP X pins σ Q w s:=⟨z,H,I,rw',q⟩
 exact subscriptTail_builtinR (x:=w) pl.typeIs slot_tuple_getitem.lookup
  (getItem_tuple (j:=j) (Q:=fun r s'=>r=w∧EP X pins σ Q r s') pl (by omega) (by omega) (by rw[List.size_toArray,← hl];exact h1) (by simpa using ew) ⟨rfl,fin⟩) hs
theorem Inv.lst {pins:List (Addr×Obj)}{σ:St}{H:Hp}{s:Shared}{p:Addr}{xs:List V}(I:Inv X pins σ H s)(h:H p=some (.lst xs)) :
  ∃ (its:List Value) (n:Nat),aG xs its∧s.heap.get? p=some {cls:=.type "list",data:=.seq its.toArray n}∧xs.length≤sizeLine:=by
 obtain⟨z,its,n,r,e⟩:=I.hok p _ h
 exact ⟨its,n,r,e,z⟩
theorem Jf (lo hi:Option Int)(n:Nat):(sliceBounds lo hi none n).1=((HT.sIx n 0 lo:Nat):Int)∧(sliceBounds lo hi none n).2.1=((HT.sIx n n hi:Nat):Int)∧(sliceBounds lo hi none n).2.2=1:=by
 refine⟨?_,?_,rfl⟩
 ·cases lo with
  | none=>simp[sliceBounds,HT.sIx]
  | some i=>
   simp only[sliceBounds,HT.sIx,Option.getD_none,show (1:Int)>0 by decide,if_true]
   by_cases h:i<0
   ·simp only[h,if_true] <;> omega
   ·simp only[h,if_false] <;> omega
 ·cases hi with
  | none=>simp[sliceBounds,HT.sIx]
  | some i=>
   simp only[sliceBounds,HT.sIx,Option.getD_none,show (1:Int)>0 by decide,if_true]
   by_cases h:i<0
   ·simp only[h,if_true] <;> omega
   ·simp only[h,if_false] <;> omega
theorem Je (its:List Value)(lo hi:Option Int):slicePick its.toArray lo hi none=((its.drop (HT.sIx its.length 0 lo)).take (HT.sIx its.length its.length hi - HT.sIx its.length 0 lo)).toArray:=by
 obtain⟨h1,h2,h3⟩:=Jf lo hi its.toArray.size
 unfold slicePick
 rw[h1,h2,h3]
 simp only[sliceRange_one,pick_run,List.size_toArray] <;> rfl
def Hz (K:PySem.W.Frag):V->Option Int->Option Int->Hp->VK->Prop:=fun x lo hi H Q=>∃ a xs,x=.ref a∧aN K H a xs∧∀ p,H p=none->Q (.ref p) (upd H p (.lst (lG xs lo hi)))
theorem Jd:j5 X (Hz X.K):=by
 intro pins s σ H x v vl vu lo hi sl Q I rx hs pl pu h
 revert h
 refine fun zqq=>L2.kA zqq fun a xs zq2 hx q=>?_
 clear zqq
 subst zq2
 cases rx
 obtain⟨its,r,ht,hz⟩:=I.list hx
 have hlen:=r.length
 refine ⟨"list",_,slot_list_getitem.lookup,ht.isList.typeIs,?_⟩
 refine wpAny_getItem_list_slice ht.isList hs pl pu .none (by simp) ?_ (by rw[List.size_toArray] <;> omega)
 rw[Je,← hlen]
 refine⟨.ref s.heap.objs.size,_,I.laid (t':=s.toks) (o:=.lst (lG xs lo hi)) (fun b ob q=>Heap.get?_push_of_some _ q) (Nat.le_refl _) ?_,rfl,q _ (I.hok.fresh (Nat.le_refl _))⟩
 exact ⟨Nat.le_trans (Co xs lo hi) hz,_,0,(r.drop (HT.sIx xs.length 0 lo)).take (HT.sIx xs.length xs.length hi - HT.sIx xs.length 0 lo),Heap.get?_push_size _ rfl⟩
def eK:V->Bool
 | .non=>true
 | .bl _=>true
 | .int _=>true
 | .str _=>true
 | _=>false
def eY:V->V->Bool
 | .non,.non=>true
 | .bl a,.bl b=>a==b
 | .bl a,.int b=>(if a then 1 else 0)==b
 | .int a,.bl b=>a==(if b then 1 else 0)
 | .int a,.int b=>a==b
 | .str a,.str b=>a==b
 | _,_=>false
theorem CA {A:Around}{s:Shared}{y x:V}{u v:Value}(ry:RelV y u)(rx:RelV x v)(fy:eK y=true)(fx:eK x=true):SeqAt.EqAt A s u v (eY y x):=by
 cases y with
 | non=>
  cases ry
  cases x with
  | non=>cases rx;exact SeqAt.EqAt.same _
  | bl b=>cases rx;exact SeqAt.EqAt.none_bool b
  | int b=>obtain⟨t,rfl⟩:=rx;exact SeqAt.EqAt.none_int b t
  | str b=>obtain⟨t,rfl⟩:=rx;exact SeqAt.EqAt.none_str b t
  | _=>exact absurd (show false=true from fx) Bool.false_ne_true
 | bl a=>
  cases ry
  cases x with
  | non=>cases rx;exact SeqAt.EqAt.bool_none a
  | bl b=>cases rx;exact SeqAt.EqAt.bool_bool a b
  | int b=>obtain⟨t,rfl⟩:=rx;exact SeqAt.EqAt.bool_int a b t
  | str b=>obtain⟨t,rfl⟩:=rx;exact SeqAt.EqAt.bool_str a b t
  | _=>exact absurd (show false=true from fx) Bool.false_ne_true
 | int a=>
  revert ry
  refine fun zqq=>L2.c5 zqq fun t' zq1=>?_
  clear zqq
  subst zq1
  cases x with
  | non=>cases rx;exact SeqAt.EqAt.int_none a t'
  | bl b=>cases rx;exact SeqAt.EqAt.int_bool a t' b
  | int b=>obtain⟨t,rfl⟩:=rx;exact SeqAt.EqAt.int_int a t' b t
  | str b=>obtain⟨t,rfl⟩:=rx;exact SeqAt.EqAt.int_str a t' b t
  | _=>exact absurd (show false=true from fx) Bool.false_ne_true
 | str a=>
  revert ry
  refine fun zqq=>L2.c5 zqq fun t' zq1=>?_
  clear zqq
  subst zq1
  cases x with
  | non=>cases rx;exact SeqAt.EqAt.str_none a t'
  | bl b=>cases rx;exact SeqAt.EqAt.str_bool a t' b
  | int b=>obtain⟨t,rfl⟩:=rx;exact SeqAt.EqAt.str_int a t' b t
  | str b=>obtain⟨t,rfl⟩:=rx;exact SeqAt.EqAt.str_str a t' b t
  | _=>exact absurd (show false=true from fx) Bool.false_ne_true
 | _=>exact absurd (show false=true from fy) Bool.false_ne_true
def fU (x:V)(u:Value):Bool:=match u with
 | .none=>eY .non x
 | .bool b=>eY (.bl b) x
 | .int i _=>eY (.int i) x
 | .str z _=>eY (.str z) x
 | _=>false
theorem qW {x y:V}{u:Value}(r:RelV y u)(f:eK y=true):fU x u=eY y x:=by
 cases y with
 | non=>cases r;rfl
 | bl b=>cases r;rfl
 | int i=>obtain⟨t,rfl⟩:=r;rfl
 | str z=>obtain⟨t,rfl⟩:=r;rfl
 | _=>exact absurd (show false=true from f) Bool.false_ne_true
theorem qH {x:V}:∀ {xs:List V} {us:List Value},aG xs us->xs.all eK=true->us.any (fU x)=xs.any fun y=>eY y x
 | _,_,.nil,_=>rfl
 | y::xs,u::us,.cons r t,f=>by
  rw[List.all_cons,Bool.and_eq_true] at f
  rw[List.any_cons,List.any_cons,qW r f.1,qH t f.2]
theorem rO {A:Around}{s:Shared}{x:V}{v:Value}(rx:RelV x v)(fx:eK x=true):∀ {xs:List V} {us:List Value},aG xs us->xs.all eK=true->∀ u∈us,SeqAt.EqAt A s u v (fU x u):=by
 intro xs us h
 induction h with
 | nil=>exact fun _ u hu=>by cases hu
 | cons r t ih=>
  intro f u' hu
  rw[List.all_cons,Bool.and_eq_true] at f
  rcases List.mem_cons.mp hu with rfl | hu
  ·rw[qW r f.1];exact CA r rx f.1 fx
  ·exact ih f.2 u' hu
def n8 (x:V)(xs:List V):Bool:=xs.any fun y=>eY y x
def y_ (K:PySem.W.Frag)(neg:Bool):R2:=fun x y H Q=>∃ p xs,y=.ref p∧(aN K H p xs∨cn K H p xs)∧eK x=true∧xs.all eK=true∧Q (.bl (if neg then !n8 x xs else n8 x xs)) H
theorem Gq:bX X (compareOp .NotIn) (y_ X.K true):=by
 intro pins s σ H x y v u Q I rx ry h
 revert h
 refine fun zqq=>L2.Fm zqq fun p xs zq2 hq fx fs q=>?_
 clear zqq
 subst zq2
 cases ry
 rcases hq with hq | hq
 ·obtain⟨its,r,pl,hz⟩:=I.list hq
  refine SeqAt.notIn_listAt (fU x) pl.isList (fun w hw=>rO rx fx r fs w (by simpa using hw)) ⟨.bl _,H,I,rfl,?_⟩
  rw[show its.toArray.any (fU x)=its.any (fU x) by simp,qH r fs]
  exact q
 ·obtain⟨its,r,pl,hz⟩:=I.tuple hq
  refine SeqAt.notIn_tupleAt (fU x) pl (fun w hw=>rO rx fx r fs w (by simpa using hw)) ⟨.bl _,H,I,rfl,?_⟩
  rw[show its.toArray.any (fU x)=its.any (fU x) by simp,qH r fs]
  exact q
theorem BK:dz X (.builtin "len") (fun xs H Q=>∃ p ys,xs=[.ref p]∧(aN X.K H p ys∨cn X.K H p ys)∧Q (.int ys.length) H):=by
 intro pins s σ H xs us Q I r h
 revert h
 refine fun zqq=>L2.kA zqq fun p ys zq2 hq q=>?_
 clear zqq
 subst zq2
 obtain⟨u,zq1,rx⟩:=vals1 r
 subst zq1
 cases rx
 have hn:=rH
 rcases hq with hq | hq
 ·obtain⟨its,r',pl,hz⟩:=I.list hq
  have hlen:=r'.length
  exact Calls.call_len_list pl.isList (by simp only[List.size_toArray] <;> omega) ⟨.int ys.length,H,I.tok _,⟨s.toks+1,by rw[List.size_toArray,hlen]⟩,q⟩
 ·obtain⟨its,r',pl,hz⟩:=I.tuple hq
  have hlen:=r'.length
  exact len_tuple pl (by simp only[List.size_toArray] <;> omega) ⟨.int ys.length,H,I.tok _,⟨s.toks+1,by rw[List.size_toArray,hlen]⟩,q⟩
theorem dz.or {f:Value}{r r':List V->Hp->VK->Prop}(h:dz X f r)(h':dz X f r'):dz X f (fun xs H Q=>r xs H Q∨r' xs H Q):=by
 intro pins s σ H xs us Q I rs q
 rcases q with q | q
 ·exact h pins s σ H xs us Q I rs q
 ·exact h' pins s σ H xs us Q I rs q
def Ac (K:PySem.W.Frag)(T:String)(x:V)(H:Hp):Prop:=match x with
 | .str _=>T="str"
 | .int _=>T="int"
 | .ref p=>(T="list"∧∃ xs,aN K H p xs)∨(T="tuple"∧∃ o,K.lookup p=some o∧o.cls=.type "tuple"∧o.dict=none) ∨
  (T="dict"∧((∃ kvs,H p=some (.dK kvs))∨∃ kvs,H p=some (.dT kvs)))∨(T="set"∧∃ S n,H p=some (.set S n))
 | _=>False
theorem Kc {pins:List (Addr×Obj)}{σ:St}{H:Hp}{s:Shared}{T:String}{x:V}{v:Value}(I:Inv X pins σ H s)(r:RelV x v)(ty:Ac X.K T x H) :
  s.TypeIs v T∧∀ a,v=.ref a->∃ ob,s.heap.get? a=some ob∧ob.dict=none:=by
 cases x with
 | str z=>
  revert r
  refine fun zqq=>L2.c5 zqq fun t zq1=>?_
  clear zqq
  subst zq1
  cases (show T="str" from ty)
  exact⟨typeIs_str s z t,fun _ e=>nomatch e⟩
 | int i=>
  revert r
  refine fun zqq=>L2.c5 zqq fun t zq1=>?_
  clear zqq
  subst zq1
  cases (show T="int" from ty)
  exact⟨typeIs_int s i t,fun _ e=>nomatch e⟩
 | ref p=>
  cases r
  rcases ty with ⟨rfl,xs,hq⟩ | ⟨rfl,o,hk,hc,hd⟩ | ⟨rfl,hk⟩ | ⟨rfl,S,n,hk⟩
  ·obtain⟨its,_,pl,_⟩:=I.list hq
   refine⟨pl.isList.typeIs,fun a e=>?_⟩
   cases e
   obtain⟨o,n,e,c,hd,_⟩:=id pl
   exact⟨o,e,hd⟩
  ·refine⟨⟨o,I.kIn p o hk,hc⟩,fun a e=>?_⟩
   cases e
   exact⟨o,I.kIn _ o hk,hd⟩
  ·have z:∃ o,s.heap.get? p=some o∧o.ExactDict:=by
    rcases hk with ⟨kvs,hk⟩ | ⟨kvs,hk⟩
    ·obtain⟨_,_,_,_,o,_,_,e,ex,_⟩:=I.hok p _ hk
     exact⟨o,e,ex⟩
    ·obtain⟨_,_,_,_,o,_,_,e,ex,_⟩:=I.hok p _ hk
     exact⟨o,e,ex⟩
   obtain⟨o,e,ex⟩:=id z
   refine⟨⟨o,e,ex.1⟩,fun a e2=>?_⟩
   cases e2
   exact⟨o,e,ex.2.1⟩
  ·obtain⟨o,_,_,_,e,ex,_⟩:=I.hok p _ hk
   refine⟨⟨o,e,ex.1⟩,fun a e2=>?_⟩
   cases e2
   exact⟨o,e,ex.2.1⟩
 | _=>exact False.elim ty
def Jx (K:PySem.W.Frag)(T:String)(r:V->List V->Hp->VK->Prop)(to:TE)(t:TA):TE:=fun σ H Q=>to σ H fun x H1=>Ac K T x H1∧t σ H1 fun xs H2=>r x xs H2 Q
variable {o e:Expr}{es:List Expr}{to:TE}{t:TA}{name:Str}{apos cpos:Pos}{T id:String}{r:V->List V->Hp->VK->Prop}
theorem sd (pa:PlainAttrs T)(slot:Slot T name id)(hty:typeOf (.builtin id)=pure (.type "method_descriptor"))(hm:j3 X id r)(ho:PE X o to)(ha:PA X (e::es) t)
  (hbase:attributeBase o name X.env (eval o X.env)=eval o X.env:=by rfl)
  (hfew:((backTo cpos (starEach (e::es) X.env)).all (fun x=>!x.1)&&(backToKw cpos (keywordEach [] X.env)).all (fun x=>x.1.isSome)
   &&decide ((e::es).length+([]:List Keyword).length+(if ([]:List Keyword).isEmpty then 0 else 1)<30))=true:=by rfl)
  (hline:(apos.endLine==cpos.line)=true:=by rfl) (hs:starEach (e::es) X.env=(false,eval e X.env)::starEach es X.env:=by rfl) (hplain:(backTo cpos (starEach es X.env)).any (·.1)=false:=by rfl) :
  PE X (.Call (.Attribute o name apos) (e::es) [] cpos) (Jx X.K T r to t):=by
 intro pins s σ H Q I h
 refine wpAny_Call_method_late hbase hfew hline rfl (aI (ho pins s σ H _ I h) fun v s1 zpat=>?_)
 obtain⟨x,H1,I1,r1,ty,q1⟩:=zpat
 obtain⟨h1,h2⟩:=Kc I1 r1 ty
 refine ⟨T,id,pa,slot,hty,h1,h2,?_⟩
 have hA:=ha cpos pins s1 σ H1 _ I1 q1
 rw[hs] at hA ⊢
 refine Calls.callWith_builtin (by show (false||(backTo cpos (starEach es X.env)).any (·.1))=false;rw[hplain] <;> rfl) (Calls.evalArgs_plain ?_)
 exact aI hA fun us s2 ⟨vs,H2,I2,r2,q2⟩=>hm pins s2 σ H2 x vs v us Q I2 r1 r2 q2
end
end L2
namespace L2
def uD (X:Cx)(id:String)(r:V->List V->Hp->VK->Prop):Prop:=
 ∀ (pins:List (Addr×Obj)) (s:Shared) (σ:St) (H:Hp) (x:V) (xs:List V) (v:Value) (us:List Value) (Q:VK),Inv X pins σ H s->RelV x v->aG xs us->r x xs H Q ->
  wpAny (model X.prog X.w) X.A (call (.builtin id) (v::us)) (EP X pins σ Q) X.xe s
theorem aG.one {x:V}{us:List Value}(h:aG [x] us):∃ u,us=[u]∧RelV x u:=by
 cases h with
 | cons r t=>cases t;exact⟨_,rfl,r⟩
theorem aG.two {x y:V}{us:List Value}(h:aG [x,y] us):∃ u v,us=[u,v]∧RelV x u∧RelV y v:=by
 cases h with
 | cons r t=>
  obtain⟨u,zq1,q⟩:=aG.one t
  subst zq1
  exact ⟨_,_,rfl,r,q⟩
theorem aG.zero:∀ {us:List Value},aG [] us->us=[]
 | _,.nil=>rfl
theorem aG.eraseIdx:∀ {xs:List V} {us:List Value} (i:Nat),aG xs us->aG (xs.eraseIdx i) (us.eraseIdx i)
 | _,_,_,.nil=>.nil
 | _,_,0,.cons _ t=>t
 | _,_,i+1,.cons r t=>.cons r (aG.eraseIdx i t)
theorem aG.reverse {xs:List V}{us:List Value}(h:aG xs us):aG xs.reverse us.reverse:=by
 induction h with
 | nil=>exact .nil
 | cons r t ih=>rw[List.reverse_cons,List.reverse_cons];exact aG.append ih (.cons r .nil)
section
variable {X:Cx}{pins:List (Addr×Obj)}{σ:St}{H:Hp}{s:Shared}{l b:Addr}{xs ys zs:List V}
theorem Inv.lset {its its':List Value}{n:Nat}{f:Array Value->Array Value}{t':Nat}(I:Inv X pins σ H s)(hH:H l=some (.lst xs))
  (e:s.heap.get? l=some {cls:=.type "list",data:=.seq its.toArray n}) (hf:f its.toArray=its'.toArray) (hv:aG ys its') (hz:ys.length≤sizeLine) :
  Inv X pins σ (upd H l (.lst ys)) {s with heap:=s.heap.update l (Obj.mapSeq f),toks:=t' }:=by
 have q:=PySem.IsL.update e f
 rw[hf] at q
 refine I.write (x:=l) (e:=l) (by rw[hH];exact trivial) (.inl rfl) (fun b' u hb hu=>(Heap.get?_update_other s.heap (Obj.mapSeq f) (Ne.symm hb)).trans hu) ⟨_,q⟩ ?_
 exact ⟨hz,its',_,hv,q⟩
theorem Inv.lnew {its:List Value}{t':Nat}(I:Inv X pins σ H s)(hv:aG ys its)(hz:ys.length≤sizeLine) :
  Inv X pins σ (upd H s.heap.objs.size (.lst ys)) {s with heap:=s.heap.push {cls:=.type "list",data:=.seq its.toArray},toks:=t' }:=
 I.laid (fun _ _ q=>Heap.get?_push_of_some _ q) (Nat.le_refl _) ⟨hz,its,0,hv,Heap.get?_push_size _ rfl⟩
theorem Inv.fresh (I:Inv X pins σ H s):H s.heap.objs.size=none:=I.hok.fresh (Nat.le_refl _)
theorem Inv.lstM (I:Inv X pins σ H s)(hH:H l=some (.lst xs)):xs.length≤sizeLine∧∃ (its:List Value) (n:Nat),aG xs its∧xs.length=its.length∧s.heap.get? l=some {cls:=.type "list",data:=.seq its.toArray n}:=by
 obtain⟨z,its,n,r,e⟩:=I.hok l _ hH
 exact ⟨z,its,n,r,r.length,e⟩
theorem Ff {n:Nat}(h:n≤sizeLine):Builtin.List.listTooLong n=false:=by
 unfold Builtin.List.listTooLong
 exact decide_eq_false (by omega)
end
section
variable {X:Cx}
def Hv:V->List V->Hp->VK->Prop:=fun x vs H Q=>∃ l xs y,x=.ref l∧vs=[y]∧H l=some (.lst xs)∧xs.length<sizeLine∧Q .non (upd H l (.lst (xs++[y])))
theorem ya:uD X "list.append" Hv:=by
 intro pins s σ H x vs v us Q I rx rv h
 revert h
 refine fun zqq=>L2.yp zqq fun l xs y zq3 zq4 hH hz q=>?_
 clear zqq
 subst zq3
 subst zq4
 cases rx
 obtain⟨u,zq1,ru⟩:=rv.one
 subst zq1
 obtain⟨z,its,n,r,hl,e⟩:=I.lstM hH
 refine call_meets F.slot_list_append ⟨_,e,rfl⟩ F.entry_list_append (F.args_list_append_2 _ _) (PySem.list_append l its.toArray n u (by rw[List.size_toArray];omega)) ⟨e,?_⟩
 refine⟨.non,_,I.lset (its':=its++[u]) hH e (by simp) (r.append (.cons ru .nil)) ?_,rfl,q⟩
 rw[List.length_append,List.length_singleton]
 omega
def Hx:V->List V->Hp->VK->Prop:=fun x vs H Q=>∃ l b xs zs,x=.ref l∧vs=[.ref b]∧H l=some (.lst xs)∧H b=some (.lst zs)∧xs.length+zs.length≤sizeLine∧Q .non (upd H l (.lst (xs++zs)))
theorem EN:uD X "list.extend" Hx:=by
 intro pins s σ H x vs v us Q I rx rv h
 revert h
 refine fun zqq=>L2.r6 zqq fun l b xs zs zq4 zq5 hH hB hz q=>?_
 clear zqq
 subst zq4
 subst zq5
 cases rx
 obtain⟨u,zq1,ru⟩:=rv.one
 subst zq1
 cases ru
 obtain⟨z,its,n,r,hl,e⟩:=I.lstM hH
 obtain⟨z2,its2,n2,r2,hl2,e2⟩:=I.lstM hB
 have hsz:its.toArray.size+its2.toArray.size≤sizeLine:=by rw[List.size_toArray,List.size_toArray];omega
 have hlong:¬ (!its.toArray.isEmpty&&Builtin.List.listTooLong (its.toArray.size+its2.toArray.size))=true:=by
  rw[Ff hsz,Bool.and_false]
  exact Bool.false_ne_true
 refine call_meets F.slot_list_extend ⟨_,e,rfl⟩ F.entry_list_extend (F.args_list_extend_2 _ _)
  (AutoSeq1.list_extend_list_list_0 l its.toArray n b its2.toArray n2 hlong (by rw[List.size_toArray];omega) (by omega)) ⟨e,e2,?_⟩
 refine⟨.non,_,I.lset (its':=its++its2) hH e (by simp) (r.append r2) ?_,rfl,q⟩
 rw[List.length_append]
 omega
end
section
variable {prog:Program}{w:World}{A:Around}{E:Value->Shared->Prop}{s:Shared}
end
section
variable {X:Cx}
end
end L2
namespace Att
open PySem PySem.W PySem.Calls PyProof.Rows
theorem DW {P:Params}{h:Heap}:∀ (ns:List Int) (vs:List Value),WellAll P h vs (ns.map WData.int)->IntsAre vs ns:=by
 intro ns
 induction ns with
 | nil=>
  intro vs w
  rw[List.map_nil] at w
  cases w
  exact .nil
 | cons n ns ih=>
  intro vs w
  rw[List.map_cons] at w
  cases w with
  | cons a b=>
   cases a
   exact .cons _ _ (ih _ b)
theorem IX {l:OpenLaw}{n:Nat}(hn:l.most=some n){P:Params}{h:Heap}{args:List WData}{vals:List Value}
  (hpre:l.row.toRowW.claim.pre args=true) (hwl:WellAll P h vals args) :
  ∃ a vs ns,vals=[Value.ref a]∧args=[WData.list (ns.map WData.int)]∧h.get? a=some {cls:=.type "list",data:=.seq vs.toArray}∧IntsAre vs ns∧ns.length≤n:=by
 have hsh:WShape.hasAll [] args [.list .int]=true:=(pre_splitW hpre).1
 have hc:l.pre.holds [] {args:=args}=true:=(pre_splitW hpre).2
 obtain⟨d,r,zq2,h1,h2⟩:=hasAllW_cons hsh
 subst zq2
 obtain rfl:=hasAllW_nil h2
 obtain⟨xs,zq1,h3⟩:=hasW_list h1
 subst zq1
 obtain⟨ns,zq1⟩:=items_int h3
 subst zq1
 have hlen:ns.length≤n:=by
  unfold OpenLaw.pre at hc
  have h4:(WTm.not (.lt (.lit (.int (n:Int))) (.len (.arg 0)))).holds [] {args:=[.list (ns.map .int)]}=true:=by
   have h4:=(holds_andW hc).1
   rw[hn] at h4
   exact h4
  have h5:=condW_of h4 (w_not (w_lt w_lit (w_len_list (w_arg rfl))))
  rw[List.length_map] at h5
  refine Nat.le_of_not_lt fun q=>?_
  have q':(n:Int)<((ns.length:Nat):Int):=by omega
  first
   | (rw[decide_eq_true q'] at h5;exact absurd h5 (by decide))
   | (simp at h5;omega)
 cases hwl with
 | cons w1 w2=>
  cases w2
  cases w1 with
  | list ho hall=>exact⟨_,_,ns,rfl,rfl,ho,DW ns _ hall,hlen⟩
theorem GZ (l:OpenLaw)(args:List WData):l.row.toRowW.claim.post args (.bool true) args=true:=
 postW_of (r:=l.row.toRowW) (X:=(true==true))
  (show WShape.has [] (.bool true) .bool=true by first | rfl | decide | simp[WShape.has,WShape.arms,WShape.armsAll])
  (show (WTm.eq .res (.lit (.bool true))).value [] {args:=args,res:=some (.bool true),after:=args}=some (.bool (true==true)) from w_eq_bool (w_res rfl) w_lit) rfl
theorem attach_call {l:OpenLaw}{n:Nat}{q:Program}{loose:List Str}{XP:(Str->Option Value)->Heap->Prop}{YP:World->Heap->Prop}{d:DefRec}
  (hn:l.most=some n) (hdf:d.params.defaults=[])
  (call:∀ (w:World) (s₀ s₁:Shared) (mg mb:Str->Option Value) (fa:Addr) (o:Obj) (pm cd doc:Value) (a:Addr) (vs:List Value) (ns:List Int),
   Ground q loose [] XP w s₀ mg mb s₁.heap->YP w s₁.heap ->
   s₁.heap.get? fa=some o->o.data=.func (docDef d.name d.params d.body d.scope pm cd doc)->s₁.heap.CodeRec cd d.name->mg d.name=some (.ref fa) ->
   s₁.heap.get? a=some {cls:=.type "list",data:=.seq vs.toArray}->IntsAre vs ns->ns.length≤n->s₁.gens=#[] ->
   codeAny (model l.prog w) callerA (.call (.ref fa) ⟨[.ref a],[]⟩) (fun r s'=>r=.ok (.ret (.bool true))∧OldK s₁.heap s'.heap∧s'.os=s₁.os∧AllBare s'.gens) s₁) :
  WalkO q loose XP YP l.row.toRowW d [] (fun f vs=>PySem.call f vs):=by
 intro w s₀ s₁ mg mb G Y fa o pm cd doc dV kV ho hd hcd hD hmg hg args vals as hpre hlay hrd hwl hlo
 obtain rfl:dV=.none:=Dflts.none hD hdf
 obtain rfl:kV=.none:=Dflts.noKw hD
 obtain⟨a,vs,ns,zq3,zq4,hobj,hints,hlen⟩:=IX hn hpre hwl
 subst zq3
 subst zq4
 refine enter_call (codeAny_mono (call w s₀ s₁ mg mb fa o pm cd doc a vs ns G Y ho (fd_plain hd) hcd hmg hobj hints hlen hg) fun r s' hq=>?_)
 revert hq
 refine fun zqq=>L2.Fh zqq fun zq0 h2 h3 h4=>?_
 clear zqq
 subst zq0
 exact⟨.inl ⟨.bool true,.bool true,[],rfl,fun _=>rfl,.bool true,GZ l _,fun _=>⟨List.Pairwise.nil,fun _ hm=>(nomatch hm)⟩⟩,h2,h3,h4⟩
section
variable {prog:Program}{w:World}{A:Around}{E:Value->Shared->Prop}{s:Shared}{K:Frag}
end
end Att
namespace L2
theorem Kl {vs:List Value}{ns:List Int}(h:IntsAre vs ns):aG (ns.map V.int) vs:=by
 induction h with
 | nil=>exact .nil
 | cons n t h ih=>exact .cons ⟨t,rfl⟩ ih
end L2
namespace L2
abbrev KG {K:PySem.W.Frag}{h:Heap}(_:K.In h):PySem.W.Frag:=K
end L2
namespace L2
def iP (s:Stmt):Arguments:=match s with
 | .FunctionDef _ a _ _ _ _ _ _ _ _=>a
 | _=>{posonlyargs:=[],args:=[],vararg:=none,kwonlyargs:=[],kw_defaults:=[],kwarg:=none,defaults:=[]}
def cW (s:Stmt):List Stmt:=match s with
 | .FunctionDef _ _ b _ _ _ _ _ _ _=>b
 | _=>[]
def aL (s:Stmt):Scope:=match s with
 | .FunctionDef _ _ _ _ _ _ sc _ _ _=>sc
 | _=>{kind:=.function,names:=[],isGenerator:=false,isCoroutine:=false}
abbrev bc:dU:=fun _ _ _ _ _ _=>False
abbrev E0:XK:=fun _ _ _=>False
theorem r_ {X:Cx}:qj bc X E0:=fun _ _ _ _ _ _ _ h=>h.elim
structure aZ (K:PySem.W.Frag)(x qual:Str)(st:Stmt)(f:Addr)(fd:FuncData):Prop where
 ex:∃ (oc:Value) (od:Option Addr) (kV doc pm:Value) (an:Option Addr) (cdv ct:Value) (osl:Array (Option Value)),
  fd=PySem.W.fnOf x qual (iP st) (cW st) (aL st) .none kV doc pm an cdv ct∧K.lookup f=some ⟨oc,od,.func fd,osl⟩∧PySem.W.codeIn K cdv qual=true
 kp:PySem.W.keepIn K (.ref f)=true
section
variable {P:Program}{w:World}{K:PySem.W.Frag}{mg:Str->Option Value}{base:Heap}
theorem aZ.ok {x qual:Str}{st:Stmt}{f:Addr}{fd:FuncData}{N ps:List Str}{k:Nat}{sp:Sp}(F:aZ K x qual st f fd)(S:bp N ps (aL st))(len:∀ vs H Q E,sp vs H Q E->vs.length=ps.length)
  (hbody:∀ (cdv:Value) (A:Around) (outer:List Env) (s:Shared) (H:Hp) (vs:List V) (Q:VK) (E:XK),ba k (A.deeper (envOfC qual (aL st) s.heap.objs.size f cdv))->sp vs H Q E ->
   ∃ t,cT (cV bc P w K mg base N qual (aL st) f cdv A outer s H E).nox (cW st) t∧t {nx:=fun _ H'=>Q .non H',rt:=Q} (start N vs) H):aS P w K mg base bc (k+1) f fd ps sp:=by
 obtain⟨oc,od,kV,doc,pm,an,cdv,ct,osl,zq9,lk,hcd⟩:=F.ex
 subst zq9
 refine qZ lk hcd S len fun A outer s H vs Q E hr hsp=>?_
 obtain⟨t,h,q⟩:=hbody cdv A outer s H vs Q E hr hsp
 exact⟨t,h.nox,q⟩
theorem aZ.binds {x qual:Str}{st:Stmt}{f:Addr}{fd:FuncData}{ps:List Str}(F:aZ K x qual st f fd)
  (h:∀ (kV doc pm:Value) (an:Option Addr) (cdv ct:Value) (us:List Value),us.length=ps.length->bindArgs (PySem.W.fnOf x qual (iP st) (cW st) (aL st) .none kV doc pm an cdv ct) ⟨us,[]⟩=pure (ps.zip us)):Binds K fd ps []:=by
 obtain⟨oc,od,kV,doc,pm,an,cdv,ct,osl,zq9,lk,hcd⟩:=F.ex
 subst zq9
 exact .all (h kV doc pm an cdv ct)
theorem KU {x qual:Str}{st:Stmt}{f:Addr}{oc:Value}{od an:Option Addr}{osl:Array (Option Value)}{kV doc pm cdv ct:Value}(l:K.lookup f=some ⟨oc,od,.func (PySem.W.fnOf x qual (iP st) (cW st) (aL st) .none kV doc pm an cdv ct),osl⟩)
 (c:PySem.W.codeIn K cdv qual=true) (k:PySem.W.keepIn K (.ref f)=true):aZ K x qual st f (PySem.W.fnOf x qual (iP st) (cW st) (aL st) .none kV doc pm an cdv ct):=⟨⟨oc,od,kV,doc,pm,an,cdv,ct,osl,rfl,l,c⟩,k⟩
end
section
variable {X:Cx}
theorem pv (i:Nat){x:Str}{pos:Pos}(hN:X.N[i]?=some x:=by rfl)(hv:j8 X.env.scope x:=by first | exact Or.inl rfl | exact Or.inr (Or.inl rfl) | exact Or.inr (Or.inr rfl))(hd:(x==("__debug__":Str))=false:=by decide)
 (hcd:(x==("__classdict__":Str))=false:=by decide):PE X (.Name x pos) (fG i):=GH hN hv hd hcd
end
def aj (H H':Hp):Prop:=∀ b o,H b=some o->H' b=some o
theorem aj.refl (H:Hp):aj H H:=fun _ _ h=>h
theorem aj.trans {H H1 H2:Hp}(a:aj H H1)(b:aj H1 H2):aj H H2:=fun c o h=>b c o (a c o h)
theorem aj.free {H H':Hp}(e:aj H H'){l:Addr}(h:H' l=Option.none):H l=Option.none:=by
 cases q:H l with
 | none=>rfl
 | some o=>
  rw[e l o q] at h
  exact L2.yh h
theorem aj.seq {K:PySem.W.Frag}{H H':Hp}{a:Addr}{xs:List V}(e:aj H H')(h:aN K H a xs):aN K H' a xs:=by
 rcases h with (h | ⟨o,h⟩) | h
 ·exact .inl (.inl (e _ _ h))
 ·exact .inl (.inr ⟨o,e _ _ h⟩)
 ·exact .inr h
end L2
set_option maxHeartbeats 4000000
namespace L2
def TabAt (P:Program)(K:PySem.W.Frag)(p:Addr):Prop:=∃ x c,x∈cS P∧PySem.W.tabIn K x=some (c,p)
open Classical in
theorem Ep {P:Program}{w:World}{K:PySem.W.Frag}{mg mb:Str->Option Value}{CX:dU}{k:Nat}{fa a:Addr}{fd:FuncData}{x:Str}{sp:Sp}{s₁:Shared}{vs:List Value}{ns:List Int}
  (KX:K.In s₁.heap) (hns:s₁.heap.Ns mainGlobals mg) (hb:s₁.heap.Ns builtinsNs mb) (hbb:∀ x:Str,x≠"__name__"->mb x=bootBuiltins x) (hlim:s₁.heap.NoLimit) (hg:s₁.gens=#[])
  (ha:s₁.heap.get? a=some {cls:=.type "list",data:=.seq vs.toArray}) (hi:IntsAre vs ns) (hl:ns.length≤sizeLine) (hr:ba k callerA)
  (hT:∀ x c p,x∈cS P->PySem.W.tabIn K x=some (c,p)->PySem.W.CodeHd s₁.heap c p∧s₁.heap.get? p=some (PySem.W.tabObj #[])) (hTK:∀ x c p,x∈cS P->PySem.W.tabIn K x=some (c,p)->K.lookup p=none)
  (hBm:∃ bm ob,mg "__builtins__"=some (.ref bm)∧bm≠builtinsNs∧s₁.heap.get? bm=some ob∧ob.cls=.type "module"∧ob.dict=some builtinsNs∧ob.data=.plain)
  (F:∀ base:Heap,K.In base->base.Ns mainGlobals mg->aS P w K mg base CX k fa fd [x] sp) (hbind:∀ (s:Shared) (u:Value),BindsTo s fd ⟨[u],[]⟩ [(x,u)])
  (hsp:∀ H:Hp,aN K H a (ns.map V.int)->sp [.ref a] H (fun v _=>v=.bl true) fun _ _ _=>False)
  (hCX:∀ H e s',CX [] H s₁ (fun _ _ _=>False) e s'->False) :
  codeAny (model P w) callerA (.call (.ref fa) ⟨[.ref a],[]⟩) (fun r s'=>r=.ok (.ret (.bool true))∧OldK s₁.heap s'.heap∧s'.os=s₁.os∧AllBare s'.gens) s₁:=by
 have rv:=Kl hi
 have lenV:=hi.length
 have objT:∀ {b:Addr},TabAt P K b->s₁.heap.get? b=some (PySem.W.tabObj #[]):=fun {b} ⟨y,c,h1,h2⟩=>(hT y c b h1 h2).2
 have aT:¬ TabAt P K a:=fun z=>by have q:=objT z;rw[ha] at q;cases q
 have core:∀ H:Hp,aN K H a (ns.map V.int)->cb P w H s₁.heap->(∀ b u,H b=some u->(b=a∧∃ o xs,u=.frz o (.lst xs))∨(u=.tab∧TabAt P K b))->(∀ b,TabAt P K b->H b=some .tab)->(H a≠none->K.lookup a=none) ->
   codeAny (model P w) callerA (.call (.ref fa) ⟨[.ref a],[]⟩) (fun r s'=>r=.ok (.ret (.bool true))∧OldK s₁.heap s'.heap∧s'.os=s₁.os∧AllBare s'.gens) s₁:=by
  intro H hS hok hA hTt hK
  have base_of:∀ {b:Addr} {o:Obj},s₁.heap.get? b=some o->H b=none->(gA s₁.heap H).get? b=some o:=fun e n=>DA e n
  have free_of:∀ {b:Addr} {o:Obj},s₁.heap.get? b=some o->o≠{cls:=.type "list",data:=.seq vs.toArray}->o≠PySem.W.tabObj #[]->H b=none:=fun {b o} e n1 n2=>by
   cases q:H b with
   | none=>rfl
   | some u=>
    rcases hA b u q with ⟨rfl,_⟩ | ⟨_,z⟩
    ·rw[ha] at e;exact absurd (Option.some.inj e).symm n1
    ·have:=objT z;rw[e] at this;exact absurd (Option.some.inj this) n2
  have noA:∀ {b:Addr} {o:Obj} {es:Array DictEntry} {ep:Nat},s₁.heap.get? b=some o->o.data=.dict es ep->H b=none:=fun {b o es ep} e d=>free_of e (fun z=>by rw[z] at d;cases d) (fun z=>by rw[z] at d;cases d)
  have nsK:∀ {b:Addr} {m:Str->Option Value},s₁.heap.Ns b m->(gA s₁.heap H).Ns b m:=fun {b m} ⟨o,es,ep,e,d,r⟩=>⟨o,es,ep,base_of e (noA e d),d,r⟩
  have hKb:K.In (gA s₁.heap H):=fun b o e=>base_of (KX b o e) (by
   cases q:H b with
   | none=>rfl
   | some u=>
    rcases hA b u q with ⟨rfl,_⟩ | ⟨_,y,c,h1,h2⟩
    ·rw[hK (by rw[q];simp)] at e;cases e
    ·rw[hTK y c b h1 h2] at e;cases e)
  have hM:Mod K mg (gA s₁.heap H):=⟨hKb,nsK hns,⟨mb,nsK hb,hbb⟩,let ⟨mc,h1,h2⟩:=hlim;⟨mc,nsK h1,h2⟩⟩
  have hTb:qu P K mg (gA s₁.heap H) H:=fun y c p h1 h2=>by
   have hp:=(hT y c p h1 h2).2
   refine⟨hTt p ⟨y,c,h1,h2⟩,?_,?_⟩
   ·obtain⟨o,vs',file,tf,flags,tg,inF,text,tt,e1,e2,r⟩:=(hT y c p h1 h2).1
    exact ⟨o,vs',file,tf,flags,tg,inF,text,tt,base_of e1 (free_of e1 (fun z=>by rw[z] at e2;exact absurd e2 (by simp)) fun z=>by rw[z] at e2;exact absurd e2 (by simp)),e2,r⟩
   ·obtain⟨bm,ob,b1,b2,b3,b4,b5,b6⟩:=id hBm
    refine ⟨bm,ob,b1,b2,(fun q=>?_),(fun q=>?_),base_of b3 (free_of b3 (fun z=>by rw[z] at b4;exact absurd b4 (by simp)) fun z=>by rw[z] at b4;exact absurd b4 (by simp)),b4,b5,b6⟩
    ·obtain⟨o,es,ep,e,hd,_⟩:=id hns
     rw[q,e] at b3;cases b3;rw[hd] at b6;cases b6
    ·rw[q,hp] at b3;cases b3;cases b4
  have e0:dH P w K mg (gA s₁.heap H) callerA [] s₁ H:=⟨rfl,hM,fun b o e=>Ft e,Nat.le_of_eq (DB _ _),trivial,fun b hb=>absurd (show b∈([]:List Addr) from hb) (by simp),hok,.of_eq hg,hTb⟩
  refine codeAny_mono ((F _ hKb (nsK hns)).run callerA [] s₁ H ⟨[.ref a],[]⟩ [.ref a] [.ref a] _ _ hr e0 (hbind s₁ (.ref a)) (.cons rfl .nil) (hsp H hS)) fun r s' h=>?_
  cases r with
  | error e=>exact (hCX H e s' h).elim
  | ok fl=>
   cases fl with
   | next=>exact False.elim h
   | brk=>exact False.elim h
   | cont=>exact False.elim h
   | ret u=>
    obtain⟨v,H',os,bare,un,hok',r',q⟩:=id h
    have q':v=.bl true:=q
    subst q'
    obtain rfl:u=Value.bool true:=r'
    have all:∀ b o,s₁.heap.get? b=some o->asItWas s₁.heap s'.heap b o∧∃ o',s'.heap.get? b=some o':=fun b o e=>by
     cases q:H b with
     | none=>
      have z:=un.keep b o e q (by intro z;exact absurd (show b∈([]:List Addr) from z) (by simp)) (by simp)
      exact⟨.inl z,o,z⟩
     | some u=>
      rcases hA b u q with ⟨_,ob,xs,rfl⟩ | ⟨rfl,y,c,h1,h2⟩
      ·have z2:=un.frzs b ob _ q
       obtain⟨e1,_⟩:=hok b _ q
       obtain⟨e2,_⟩:=hok' b _ z2
       rw[e] at e1;cases e1
       exact⟨.inl e2,o,e2⟩
      ·obtain⟨ps,e2,_⟩:=hok' b _ (un.tabs b q)
       obtain⟨hc,hp⟩:=hT y c b h1 h2
       rw[hp] at e;cases e
       exact⟨.inr (.inl ⟨(hc.tab hp).isCodeTable,rfl,#[],ps,rfl,by rw[e2];simp⟩),_,e2⟩
    exact⟨rfl,⟨fun b o e=>(all b o e).1,fun b o e=>(all b o e).2⟩,os,bare⟩
 have okT:∀ (H:Hp) (b:Addr),TabAt P K b->c9 P w H s₁.heap b .tab:=fun H b z=>⟨#[],objT z,trivial,fun pos c q=>by cases q⟩
 cases hk:K.lookup a with
 | some o=>
  have e:=KX a o hk
  rw[ha] at e
  obtain rfl:=Option.some.inj e
  refine core (fun b=>if TabAt P K b then some .tab else none) (.inr ⟨_,vs.toArray,_,hk,rfl,rfl,rfl,by rw[List.size_toArray,lenV];exact hl,by simpa using rv⟩) (fun b u z=>?_) (fun b u z=>?_) (fun b z=>if_pos z) fun z=>absurd (if_neg aT) z
  ·by_cases hb:TabAt P K b
   ·have z':=(if_pos hb).symm.trans z
    obtain rfl:=Option.some.inj z'
    exact okT _ b hb
   ·have z':=(if_neg hb).symm.trans z
    exact L2.aQ z'
  ·by_cases hb:TabAt P K b
   ·have z':=(if_pos hb).symm.trans z
    obtain rfl:=Option.some.inj z'
    exact .inr ⟨rfl,hb⟩
   ·have z':=(if_neg hb).symm.trans z
    exact L2.aQ z'
 | none=>
  refine core (fun b=>if b=a then some (.frz {cls:=.type "list",data:=.seq vs.toArray} (.lst (ns.map V.int))) else if TabAt P K b then some .tab else none) (.inl (.inr ⟨{cls:=.type "list",data:=.seq vs.toArray},if_pos rfl⟩)) (fun b u z=>?_) (fun b u z=>?_) (fun b z=>?_) fun _=>hk
  ·by_cases hb:b=a
   ·have z':=(if_pos hb).symm.trans z
    obtain rfl:=Option.some.inj z'
    subst hb
    exact ⟨ha,(by rw[List.length_map];exact hl),vs,_,rv,ha⟩
   ·have z':=(if_neg hb).symm.trans z
    by_cases hb2:TabAt P K b
    ·have z2:=(if_pos hb2).symm.trans z'
     obtain rfl:=Option.some.inj z2
     exact okT _ b hb2
    ·have z2:=(if_neg hb2).symm.trans z'
     exact L2.aQ z2
  ·by_cases hb:b=a
   ·have z':=(if_pos hb).symm.trans z
    obtain rfl:=Option.some.inj z'
    exact .inl ⟨hb,_,_,rfl⟩
   ·have z':=(if_neg hb).symm.trans z
    by_cases hb2:TabAt P K b
    ·have z2:=(if_pos hb2).symm.trans z'
     obtain rfl:=Option.some.inj z2
     exact .inr ⟨rfl,hb2⟩
    ·have z2:=(if_neg hb2).symm.trans z'
     exact L2.aQ z2
  ·have hb:b≠a:=fun e=>aT (e▸z)
   rw[if_neg hb,if_pos z]
theorem Kn {l:PySem.W.OpenLaw}{n k:Nat}{q:Program}{loose:List Str}{XP:(Str->Option Value)->Heap->Prop}{YP:World->Heap->Prop}{d:DefRec}{K:Params->PySem.W.Frag}{CX:World->dU}{sp:World->Sp}{x:Str}
  (hn:l.most=some n) (hn2:n≤sizeLine) (hdf:d.params.defaults=[]) (hr:ba k callerA)
  (hY:∀ (w:World) (h:Heap),YP w h->(K w.params).In h)
  (hq:∀ y∈cS l.prog,((recsOf q).find? fun e=>e.name==y).isSome=true) (hTK:∀ (w:World) (y:Str) (c p:Addr),y∈cS l.prog->PySem.W.tabIn (K w.params) y=some (c,p)->(K w.params).lookup p=none)
  (F:∀ (w:World) (mg:Str->Option Value) (fa:Addr) (h:Heap),(K w.params).In h->h.Ns mainGlobals mg->mg d.name=some (.ref fa) ->
   ∃ fd:FuncData,(∀ (s:Shared) (u:Value),BindsTo s fd ⟨[u],[]⟩ [(x,u)]) ∧
    ∀ base:Heap,(K w.params).In base->base.Ns mainGlobals mg->aS l.prog w (K w.params) mg base (CX w) k fa fd [x] (sp w))
  (hsp:∀ (w:World) (H:Hp) (a:Addr) (ns:List Int),ns.length≤n->aN (K w.params) H a (ns.map V.int)->sp w [.ref a] H (fun v _=>v=.bl true) fun _ _ _=>False)
  (hCX:∀ (w:World) (H:Hp) (s:Shared) (e:Value) (s':Shared),CX w [] H s (fun _ _ _=>False) e s'->False) :
  PySem.W.WalkO q loose XP YP l.row.toRowW d [] (fun f vs=>PySem.call f vs):=by
 refine Att.attach_call hn hdf fun w s₀ s₁ mg mb fa o pm cd doc a vs ns G Y ho hd hcd hmg hobj hints hlen hg=>?_
 have KX:=hY w _ Y
 obtain⟨fd,hb,hF⟩:=F w mg fa _ KX G.T.g hmg
 refine Ep KX G.T.g G.T.b G.T.builtins G.T.nolimit hg hobj hints (Nat.le_trans hlen hn2) hr (fun y c p h1 h2=>?_) (hTK w) G.T.bmain hF hb (fun H hS=>hsp w H a ns hlen hS) fun H e s'=>hCX w H s₁ e s'
 obtain⟨r,hr'⟩:=Option.isSome_iff_exists.mp (hq y h1)
 exact PySem.W.tab_of G.T KX hr' h2
end L2
namespace L2
end L2
namespace L2
theorem wx {α β:Type}{f:α->β->Sem (ForInStep β)}{g:β->α->β}:∀ (l:List α) (b:β),(∀ x∈l,∀ b,f x b=pure (ForInStep.yield (g b x)))->forIn l b f=(pure (l.foldl g b):Sem β)
 | [],b,_=>rfl
 | x::r,b,h=>by
  rw[List.forIn_cons,h x List.mem_cons_self b]
  simp only[pure_bind,List.foldl_cons]
  exact wx r (g b x) fun y hy=>h y (List.mem_cons_of_mem _ hy)
def fo (env:Env)(b:List (Str×Addr))(x:Str×NameKind):List (Str×Addr):=if x.2==.free then (x.1,(env.cells.lookup x.1).getD 0)::b else b
def bR (scope:Scope)(env:Env):List (Str×Addr):=scope.names.foldl (fo env) []
theorem vM {scope:Scope}{env:Env}(h:∀ x∈scope.names,x.2=.free->∃ c,env.cells.lookup x.1=some c):closureFor scope env=pure (bR scope env):=by
 simp only[closureFor]
 rw[wx (g:=fo env) scope.names [] ?_]
 ·rfl
 ·rintro⟨n,k⟩ hx b
  unfold fo
  by_cases hk:(k==NameKind.free)=true
  ·obtain⟨c,hc⟩:=h (n,k) hx (by simpa using hk)
   simp only[hk,if_true,cellOf,hc,Option.getD_some,pure_bind]
  ·simp only[hk,Bool.false_eq_true,if_false]
theorem vJ {env:Env}:∀ (l:List (Str×NameKind)) (b:List (Str×Addr)) (p:Str×Addr),p∈l.foldl (fo env) b->p∈b∨∃ x∈l,x.2=.free∧p=(x.1,(env.cells.lookup x.1).getD 0)
 | [],b,p,h=>.inl h
 | x::r,b,p,h=>by
  rcases vJ r (fo env b x) p h with q | ⟨y,hy,e⟩
  ·unfold fo at q
   by_cases hk:(x.2==NameKind.free)=true
   ·rw[if_pos hk] at q
    rcases List.mem_cons.mp q with q | q
    ·exact .inr ⟨x,List.mem_cons_self,by simpa using hk,q⟩
    ·exact .inl q
   ·rw[if_neg hk] at q
    exact .inl q
  ·exact .inr ⟨y,List.mem_cons_of_mem _ hy,e⟩
theorem vL {env:Env}:∀ (l:List (Str×NameKind)) (b:List (Str×Addr)) (p:Str×Addr),p∈b->p∈l.foldl (fo env) b
 | [],b,p,h=>h
 | x::r,b,p,h=>vL r _ p (by unfold fo;split;exact List.mem_cons_of_mem _ h;exact h)
theorem Cc {env:Env}(l:List (Str×NameKind)):∀ (b:List (Str×Addr)) (x:Str×NameKind),x∈l->x.2=.free->(x.1,(env.cells.lookup x.1).getD 0)∈l.foldl (fo env) b:=by
 induction l with
 | nil=>exact fun b x h=>absurd h List.not_mem_nil
 | cons y r ih=>
  intro b x h e
  rcases List.mem_cons.mp h with rfl | h
  ·refine vL r _ _ ?_
   unfold fo
   rw[if_pos (by rw[e];rfl)]
   exact List.mem_cons_self
  ·exact ih _ x h e
theorem ED {l:List (Str×Addr)}{n:Str}{c:Addr}(h:(n,c)∈l):∃ d,l.lookup n=some d:=by
 induction l with
 | nil=>cases h
 | cons p r ih=>
  obtain⟨m,d⟩:=p
  by_cases e:n=m
  ·subst e
   exact⟨d,by simp[List.lookup_cons]⟩
  ·rcases List.mem_cons.mp h with q | q
   ·cases q
    exact absurd rfl e
   ·obtain⟨d',q'⟩:=ih q
    exact⟨d',by rw[List.lookup_cons,show (n==m)=false by simpa using e];exact q'⟩
theorem iL {scope:Scope}{env:Env}(h:∀ x∈scope.names,x.2=.free->∃ c,env.cells.lookup x.1=some c){n:Str}{c:Addr}(e:(bR scope env).lookup n=some c):env.cells.lookup n=some c:=by
 rcases vJ scope.names [] (n,c) (PySem.mem_of_lookup e) with q | ⟨x,hx,hf,q⟩
 ·cases q
 ·obtain⟨d,hd⟩:=h x hx hf
  cases q
  rw[hd]
  rfl
theorem vI {scope:Scope}{env:Env}{n:Str}(h:(n,NameKind.free)∈scope.names):∃ c,(bR scope env).lookup n=some c:=
 ED (Cc scope.names [] (n,.free) h rfl)
structure gG (sc:Scope)(XN:List Str)(scope:Scope)(k:Nat)(N:List Str)(ix:List Nat):Prop where
 kind:scope.kind=.function
 okind:sc.kind=.function
 nocell:∀ y∈scope.names,y.2≠.cell
 loc:∀ y∈scope.names,y.2=.local->scope.names.lookup y.1=some .local
 fr:∀ y∈scope.names,y.2=.free->sc.names.lookup y.1=some .cell
 sl:ix.map (fun i=>XN[i]?)=(N.drop k).map some
 frl:∀ x∈N.drop k,scope.names.lookup x=some .free
 len:N.length=k+ix.length
def cu (X:Cx)(N:List Str)(scope:Scope)(cl:List (Str×Addr))(C:Addr)(s3:Shared)(H3:Hp)(fp:List Addr)(pins:List (Addr×Obj)):Cx:=
 {X with N:=N,s₀:=s3,H₀:=H3,env:=compEnvC scope cl C X.env,outer:=X.stack,stack:=X.stack,ex:=fp,fn:=fun _=>false,pn:=X.pn++pins}
theorem HU {scope:Scope}{env:Env}{x:Str}(hk:env.scope.kind=.function)(he:env.kindOf x=some .cell)(h:scope.names.lookup x=some .free):(relabel scope env).names.lookup x=some .cell:=by
 have go:∀ names:List (Str×NameKind),names.lookup x=some .free ->
   (names.map fun (n,k)=>if (k==NameKind.free&&env.scope.kind==.function&&env.kindOf n==some .cell) then (n,NameKind.cell) else (n,k)).lookup x=some .cell:=by
  intro names
  induction names with
  | nil=>intro h;cases h
  | cons p r ih=>
   obtain⟨n,k⟩:=p
   intro h
   rw[List.map_cons]
   by_cases e:x=n
   ·subst e
    have hkf:k=.free:=by simpa [List.lookup_cons] using h
    subst hkf
    simp[List.lookup_cons,hk,he]
   ·have e':(x==n)=false:=by simpa using e
    rw[List.lookup_cons,e'] at h
    have q:=ih h
    dsimp only
    split
    ·rw[List.lookup_cons,e']
     exact q
    ·rw[List.lookup_cons,e']
     exact q
 exact go _ h
theorem zi {scope:Scope}{env:Env}{x:Str}{k:NameKind}(hc:∀ y∈scope.names,y.2≠.cell)(h:(relabel scope env).names.lookup x=some k)(hk:k=.cell∨k=.free):(x,NameKind.free)∈scope.names:=by
 obtain⟨⟨n,k'⟩,hm,e⟩:=List.mem_map.mp (PySem.mem_of_lookup h)
 dsimp only at e
 split at e
 ·rename_i hq
  cases e
  have:k'=.free:=by
   have:=(Bool.and_eq_true_iff.mp (Bool.and_eq_true_iff.mp hq).1).1
   simpa using this
  subst this
  exact hm
 ·cases e
  rcases hk with rfl | rfl
  ·exact absurd rfl (hc _ hm)
  ·exact hm
section
variable {X:Cx}{pins:List (Addr×Obj)}{σ:St}{H:Hp}{s:Shared}{scope:Scope}{k:Nat}{N:List Str}{ix:List Nat}{sc:Scope}{fp:List Addr}
theorem nM (I:Inv X pins σ H s)(hsc:X.env.scope=sc)(S:gG sc X.N scope k N ix):∀ x∈scope.names,x.2=.free->∃ c,X.env.cells.lookup x.1=some c:=fun x hx hf=>
 I.ok.has x.1 (.inl (by show X.env.scope.names.lookup x.1=_;rw[hsc];exact S.fr x hx hf))
theorem q_ (I:Inv X pins σ H s){b:Addr}(h1:b≠X.env.locals)(h2:b∉X.fs):b∉cG X.stack:=fun hb=>by
 rcases List.mem_cons.mp (I.stkSub b hb) with e | e
 ·exact h1 e
 ·exact h2 e
theorem Ci (I:Inv X pins σ H s)(hsc:X.env.scope=sc)(S:gG sc X.N scope k N ix)(hf:∀ b∈fp,b_ X pins H b)(hlt:∀ b∈fp,b<s.heap.objs.size) :
  (cu X N scope (bR scope X.env) s.heap.objs.size s H fp pins).Ok:=by
 have hcl:=nM I hsc S
 refine⟨I.ok.mod,S.kind,I.ok.glob,I.ok.blt,Nat.le_refl _,fun x y c h1 h2=>I.ok.inj x y c (iL hcl h1) (iL hcl h2),fun x hx=>?_,fun x c h=>(by cases (show false=true from h)),I.ok.hd,I.ok.frames,.inl rfl,fun b hb=>⟨Nat.ne_of_lt (hlt b hb),fun x c e=>?_⟩,
  I.bs,Nat.le_trans I.ok.bsz I.sz,fun b o e hb=>?_,fun b hb=>q_ I (hf b hb).2.1 (hf b hb).2.2.1,I.stack,I.stkFree,fun x c p h1 h2=>let z:=I.ok.tabs x c p h1 h2;⟨I.base.tabs p z.1,z.2⟩⟩
 ·have hx':(x,NameKind.free)∈scope.names:=by
   rcases hx with hx | hx
   ·exact zi S.nocell hx (.inl rfl)
   ·exact zi S.nocell hx (.inr rfl)
  exact vI hx'
 ·exact (hf b hb).2.2.2.2.1 x c (iL hcl e)
 ·rcases (hf b hb).2.2.2.1 with z | z
  ·exact I.ok.noex b o e z
  ·exact absurd (Nat.lt_of_lt_of_le (Heap.lt_size (I.ok.bs b o e).1) z) (Nat.lt_irrefl _)
def gc (k:Nat)(ix:List Nat)(σ:St):St:=List.replicate k none++ix.map fun i=>(σ[i]?).getD none
theorem Ck (I:Inv X pins σ H s)(hsc:X.env.scope=sc)(S:gG sc X.N scope k N ix)(hf:∀ b∈fp,b_ X pins H b)(hlt:∀ b∈fp,b<s.heap.objs.size){h':Heap}{t:Nat}{m:Str->Option Value}
  (hns:h'.Ns s.heap.objs.size m) (hk:∀ b o,s.heap.get? b=some o->h'.get? b=some o) :
  Inv (cu X N scope (bR scope X.env) s.heap.objs.size s H fp pins) [] (gc k ix σ) H {s with heap:=h',toks:=t}:=by
 have hcl:=nM I hsc S
 have hkind:X.env.scope.kind=.function:=by rw[hsc];exact S.okind
 have cellK:∀ c v,s.heap.IsCell c v->h'.IsCell c v:=fun c v ⟨o,e,d⟩=>⟨o,hk c o e,d⟩
 refine⟨Ci I hsc S hf hlt,rfl,I.bare,Un.kept hk,⟨m,hns,fun i x v e1 e2 e3=>?_⟩,fun x c e=>?_,I.hok.fresh (Nat.le_refl _),fun x c e=>(I.freeC x c (iL hcl e)).imp id fun z=>⟨rfl,z.2⟩,fun p hp=>?_,I.hok.kept hk,?_⟩
 ·unfold gc at e2
  by_cases hi:i<k
  ·rw[List.getElem?_append_left (by simpa using hi),List.getElem?_replicate,if_pos hi] at e2
   cases e2
  ·have hj:k≤i:=Nat.le_of_not_lt hi
   rw[List.getElem?_append_right (by simpa using hj),List.getElem?_map] at e2
   simp only[List.length_replicate] at e2
   cases hix:ix[i - k]? with
   | none=>rw[hix] at e2;cases e2
   | some j=>
    rw[hix] at e2
    have e2':(σ[j]?).getD none=some v:=Option.some.inj e2
    have hσ:σ[j]?=some (some v):=by
     cases q:σ[j]? with
     | none=>rw[q] at e2';cases e2'
     | some w=>rw[q] at e2';exact congrArg some e2'
    have hd:(N.drop k)[i - k]?=some x:=by
     rw[List.getElem?_drop]
     have:k+(i - k)=i:=by omega
     rw[this]
     exact e1
    have hXN:X.N[j]?=some x:=by
     have q:=congrArg (fun l=>l[i - k]?) S.sl
     simp only[List.getElem?_map,hix,hd,Option.map_some] at q
     exact Option.some.inj q
    have hfree:=S.frl x (List.mem_of_getElem? hd)
    have hmem:=PySem.mem_of_lookup hfree
    have hout:X.env.kindOf x=some .cell:=by
     show X.env.scope.names.lookup x=_
     rw[hsc]
     exact S.fr _ hmem rfl
    obtain⟨m0,hn0,hl0⟩:=I.loc
    obtain⟨u,r,l⟩:=hl0 j x v hXN hσ (.inr (.inl hout))
    refine⟨u,r,.inr ⟨.inl (HU hkind hout hfree),?_⟩⟩
    rcases l with ⟨q,_⟩ | ⟨_,c,hc,z⟩
    ·rw[hout] at q;cases q
    ·obtain⟨c',hc'⟩:=vI (env:=X.env) hmem
     have e':=iL hcl hc'
     rw[hc] at e'
     obtain rfl:=Option.some.inj e'
     exact⟨c,hc',cellK c _ z⟩
 ·obtain⟨v,z⟩:=I.cell x c (iL hcl e)
  exact⟨v,cellK c v z⟩
 ·have hp':p∈X.pn++pins:=by simpa [cu] using hp
  obtain⟨e,n,ne,nf,d⟩:=I.pin p hp'
  exact⟨hk _ _ e,n,Nat.ne_of_lt (Heap.lt_size e),q_ I ne nf,d⟩
 ·unfold gc
  show _=N.length
  rw[S.len,List.length_append,List.length_replicate,List.length_map]
theorem Un.other {fs ex:List Addr}{H H':Hp}{h h1 h2:Heap}(u:Un fs ex H H' h h1)(e:∀ b,b<h.objs.size->h2.get? b=h1.get? b):Un fs ex H H' h h2 where
 keep:=fun b o q n hb hx=>(e b (Heap.lt_size q)).trans (u.keep b o q n hb hx)
 slot:=fun b o q n hb hx=>by obtain⟨sl,z⟩:=u.slot b o q n hb hx;exact⟨sl,(e b (Heap.lt_size q)).trans z⟩
 free:=u.free
 there:=fun b o q hx=>by obtain⟨o',z⟩:=u.there b o q hx;exact⟨o',(e b (Heap.lt_size q)).trans z⟩
 tups:=u.tups
 frzs:=u.frzs
 tbls:=u.tbls
 tabs:=u.tabs
theorem Ce {σ':St}{H':Hp}{s':Shared}{h':Heap}{scope:Scope}{cl:List (Str×Addr)}(I:Inv X pins σ H s)(hf:∀ b∈fp,b_ X pins H b)
  (J:Inv (cu X N scope cl s.heap.objs.size s H fp pins) [] σ' H' s') (hs:Heap.SameBut s.heap.objs.size s'.heap h'):Inv X pins σ H' {s' with heap:=h' }:=by
 have un:Un (cG X.stack) fp H H' s.heap s'.heap:=J.base
 have fr:H' s.heap.objs.size=none:=J.free
 refine I.call' (s':={s' with heap:=h' }) (ch:=fp) J.os (un.other fun b hb=>hs.2 b (Nat.ne_of_lt hb)) (fun b o e=>?_) J.bare fun b hb=>⟨(hf b hb).2.2.2.1,(hf b hb).2.1,(hf b hb).2.2.2.2.1,(hf b hb).2.2.2.2.2⟩
 refine (J.hok b o e).stay (fun c u hc q=>(hs.2 c ?_).trans q) (fun _ q=>q) fun _ _ q=>q
 rcases hc with hc | hc
 ·rw[hc];exact bV e fr
 ·exact bV hc fr
end
def JV:TT:=fun _ H Q=>Q true H
def jk (X:Cx)(ifs:List Expr)(t:TT):Prop:=
 ∀ (pins:List (Addr×Obj)) (s:Shared) (σ:St) (H:Hp) (Q:Bool->Hp->Prop),Inv X pins σ H s->t σ H Q ->
  wpAny (model X.prog X.w) X.A (forIn ifs true fun c r=>if r=true then do let ok ← isTrue c X.env (eval c X.env);pure (ForInStep.yield ok) else pure (ForInStep.yield r)) (TP X pins σ Q) X.xe s
theorem GS {X:Cx}:jk X [] JV:=fun pins s σ H Q I h=>wpAny_tests_nil ⟨H,I,h⟩
theorem GU {X:Cx}{c:Expr}{t:TT}(h:PT X c t):jk X [c] t:=fun pins s σ H Q I q=>wpAny_tests_one (h pins s σ H Q I q)
theorem Cg {prog:Program}{w:World}{A:Around}{R:Result->Shared->Prop}{s:Shared}{elt target iter:Expr}{ifs:List Expr}{scope:Scope}{pos:Pos}{it acc:Value}{env:Env}(J:Nat->Shared->Prop)
  (turn:∀ n s,J n s->wpAny (model prog w) A (pyNext it) (fun r s1=>match r with
   | none=>R (.ok .next) s1
   | some v=>wpAny (model prog w) A (letOwnedTupleGo target it v) (fun _ s1'=>wpAny (model prog w) A (assign target env v) (fun _ s2=>
    wpAny (model prog w) A (forIn ifs true fun c r=>if r=true then do let ok ← isTrue c env (eval c env);pure (ForInStep.yield ok) else pure (ForInStep.yield r)) (fun ok s3=>
     if ok=true then wpAny (model prog w) A (eval elt env) (fun x s4=>
      wpAny (model prog w) A (call (.builtin "list.append") [acc,x]) (fun _ s5=>∃ m,m<n∧J m s5) (fun _ _=>False) s4) (fun _ _=>False) s3
     else ∃ m,m<n∧J m s3) (fun _ _=>False) s2) (fun _ _=>False) s1') (fun _ _=>False) s1) (fun _ _=>False) s)
  (n:Nat) (h:J n s):codeAny (model prog w) A (.compLoop (.ListComp elt [⟨target,iter,ifs,0⟩] scope pos) 0 it acc env) R s:=by
 refine codeAny_loop rfl J (fun n s hJ=>?_) n h
 show wpAny _ A ((compTurn (.ListComp elt [⟨target,iter,ifs,0⟩] scope pos) 0 it acc env).onRaise _) _ _ s
 refine wpAny_noted ?_
 rw[compTurn_list]
 refine wpAny_bind (wpAny_standAt (wpAny_bind (wpAny_mono (turn n s hJ) (fun r s1 h1=>?_) fun _ _ z=>False.elim z)))
 cases r with
 | none=>exact wpAny_pure h1
 | some v=>
  refine wpAny_bind (wpAny_mono h1 (fun _ s1' h1'=>wpAny_bind (wpAny_mono h1' (fun _ s2 h2=>wpAny_bind (wpAny_mono h2 (fun ok s3 h3=>?_) fun _ _ z=>False.elim z)) fun _ _ z=>False.elim z)) fun _ _ z=>False.elim z)
  cases ok with
  | false=>exact wpAny_pure ⟨rfl,h3⟩
  | true=>
   refine wpAny_bind (wpAny_bind (wpAny_mono h3 (fun x s4 h4=>wpAny_bind (wpAny_mono h4 (fun _ s5 h5=>?_) fun _ _ z=>False.elim z)) fun _ _ z=>False.elim z))
   exact wpAny_pure (wpAny_pure ⟨rfl,h5⟩)
def mm (wi:TI)(g:TG)(tc:TT)(te:TE)(st:St->St):TE:=fun σ H Q=>wi σ H fun J H1=>∀ D,H1 D=none->∃ W:Nat->Nat->St->Hp->Prop,(∃ m,W 0 m (st σ) (upd H1 D (.lst [])))∧∀ i m τ H2,W i m τ H2 ->
 (J.stop i H2∧Q (.ref D) H2)∨(J.go i H2∧∃ N:St->Hp->Prop,(∀ τ' H',N τ' H'->∃ m',m'<m∧W (i+1) m' τ' H')∧∀ x H3,J.yld i H2 x H3->g x τ H3 fun τ2 H4=>tc τ2 H4 fun b H5=>
  if b=true then te τ2 H5 fun y H6=>∃ ys,H6 D=some (.lst ys)∧ys.length<sizeLine∧N τ2 (upd H6 D (.lst (ys++[y]))) else N τ2 H5)
theorem Cj {Y:Cx}{elt tg iter:Expr}{ifs:List Expr}{scope:Scope}{pos:Pos}{g:TG}{tc:TT}{te:TE}{R:Result->Shared->Prop}{it D:Addr}{fp:List Addr}{tn:Nat->Heap->Prop}{J:It}{W:Nat->Nat->St->Hp->Prop}{Q:VK}
  (hx:Y.xe=fun _ _=>False) (hc:Y.calm=true) (hg:PG Y tg g) (ht:jk Y ifs tc) (he:PE Y elt te) (T:j7 Y.prog Y.w Y.K tg J fp it tn) (fok:∀ {H':Hp},(∀ b∈fp,H' b=none)->∀ b∈fp,b_ Y [] H' b)
  (turn:∀ i m τ H2,W i m τ H2->(J.stop i H2∧Q (.ref D) H2)∨(J.go i H2∧∃ N:St->Hp->Prop,(∀ τ' H',N τ' H'->∃ m',m'<m∧W (i+1) m' τ' H')∧∀ x H3,J.yld i H2 x H3->g x τ H3 fun τ2 H4=>tc τ2 H4 fun b H5=>
   if b=true then te τ2 H5 fun y H6=>∃ ys,H6 D=some (.lst ys)∧ys.length<sizeLine∧N τ2 (upd H6 D (.lst (ys++[y]))) else N τ2 H5))
  (fin:∀ τ H5 s6,Inv Y [] τ H5 s6->Q (.ref D) H5->R (.ok .next) s6) {m0:Nat} {τ0:St} {H0:Hp} {s4:Shared} (I4:Inv Y [] τ0 H0 s4) (st4:tn 0 s4.heap) (fr4:∀ b∈fp,H0 b=none) (w0:W 0 m0 τ0 H0) :
  codeAny (model Y.prog Y.w) Y.A (.compLoop (.ListComp elt [⟨tg,iter,ifs,0⟩] scope pos) 0 (.ref it) (.ref D) Y.env) R s4:=by
 refine Cg (fun n s'=>∃ i τ H',Inv Y [] τ H' s'∧tn i s'.heap∧(∀ b∈fp,H' b=none)∧W i n τ H') ?_ m0 (⟨0,_,_,I4,st4,fr4,w0⟩)
 intro n s5 zpat
 obtain⟨i,τ,H5,I5,st5,fr5,w5⟩:=zpat
 rcases turn i n τ H5 w5 with ⟨stop,qn⟩ | ⟨go,NX,hN,step⟩
 ·refine aI (T.done Y rfl rfl rfl hc i [] s5 τ H5 _ I5 (fok fr5) st5 stop) fun r s6 zpat=>?_
  obtain⟨hr,I6⟩:=zpat
  subst hr
  exact fin τ H5 s6 I6 qn
 ·refine aI (T.item Y rfl rfl rfl hc i [] s5 τ H5 _ I5 (fok fr5) st5 go) fun r s6 zpat=>?_
  obtain⟨u,hr,h6⟩:=zpat
  subst hr
  refine aI h6 fun _ s7 zpat=>?_
  obtain⟨x,H7,I7,r7,y7,st7,fr7⟩:=zpat
  have again:∀ {τ9:St} {H9:Hp} {s9:Shared},Inv Y ([]++l8 fp s7.heap) τ9 H9 s9->NX τ9 H9->∃ m,m<n∧∃ i τ H',Inv Y [] τ H' s9∧tn i s9.heap∧(∀ b∈fp,H' b=none)∧W i m τ H':=fun {τ9 H9 s9} I9 n9=>by
   obtain⟨m',hm,w9⟩:=hN τ9 H9 n9
   refine ⟨m',hm,i+1,τ9,H9,I9.unpinned,(T.keep _ _ _ st7 fun b hb o q=>(I9.pin (b,o) (List.mem_append_right _ (List.mem_append_right _ (om hb q)))).1),(fun b hb=>?_),w9⟩
   obtain⟨o,q,_⟩:=T.obj _ _ st7 b hb
   exact (I9.pin (b,o) (List.mem_append_right _ (List.mem_append_right _ (om hb q)))).2.1
  have G:=hg _ s7 τ H7 x u _ (I7.pinned (fok fr7) (T.obj _ _ st7)) r7 (step x H7 y7)
  rw[hx] at G
  refine aI G fun _ s8 zpat=>?_
  obtain⟨τ8,H8,I8,q8⟩:=zpat
  have Tt:=ht _ s8 τ8 H8 _ I8 q8
  rw[hx] at Tt
  refine aI Tt fun b s9 zpat=>?_
  obtain⟨H9,I9,q9⟩:=zpat
  cases b with
  | false=>
   rw[if_neg Bool.false_ne_true] at q9 ⊢
   exact again I9 q9
  | true=>
   rw[if_pos rfl] at q9 ⊢
   have Te:=he _ s9 τ8 H9 _ I9 q9
   rw[hx] at Te
   refine aI Te fun xv s10 zpat=>?_
   obtain⟨y,H10,I10,r10,ys,hy,hz,n10⟩:=zpat
   have Ap:=ya (X:=Y) _ s10 τ8 H10 (.ref D) [y] (.ref D) [xv] (fun _ H'=>NX τ8 H') I10 rfl (.cons r10 .nil) ⟨D,ys,y,rfl,rfl,hy,hz,n10⟩
   rw[hx] at Ap
   refine aI Ap fun _ s11 zpat=>?_
   obtain⟨_,H11,I11,_,n11⟩:=zpat
   exact again I11 n11
theorem vS {X:Cx}{elt tg iter:Expr}{ifs:List Expr}{scope:Scope}{pos cpos:Pos}{wi:TI}{g:TG}{tc:TT}{te:TE}{k:Nat}{N:List Str}{ix:List Nat}(sc:Scope)(hsc:X.env.scope=sc)(S:gG sc X.N scope k N ix)
  (hx:X.xe=fun _ _=>False) (hc:X.calm=true) (hi:PI X tg iter wi)
  (hg:∀ cl C s3 H3 fp pins,PG (cu X N scope cl C s3 H3 fp pins) tg g) (ht:∀ cl C s3 H3 fp pins,jk (cu X N scope cl C s3 H3 fp pins) ifs tc) (he:∀ cl C s3 H3 fp pins,PE (cu X N scope cl C s3 H3 fp pins) elt te)
  {use:Option (Value->Sem Unit)} {QQ:Value->Shared->Prop} (pins:List (Addr×Obj)) (s:Shared) (σ:St) (H:Hp) (Q:VK) (I:Inv X pins σ H s) (h:mm wi g tc te (gc k ix) σ H Q)
  (hend:∀ (D C:Addr) (H5:Hp) (s6:Shared),(∀ h',Heap.SameBut C s6.heap h'->Inv X pins σ H5 {s6 with heap:=h' })->(∃ m6,s6.heap.Ns C m6)->b_ X pins H5 C->Q (.ref D) H5->compPost (model X.prog X.w) X.A X.xe use QQ (.ref D) C (.ok .next) s6)
  (hs:∀ x,foldedSetIterable iter X.env x=pure x:=by intro _;rfl):wpAny (model X.prog X.w) X.A (comprehension (.ListComp elt [⟨tg,iter,ifs,0⟩] scope pos) scope X.env cpos (newList []) false (eval iter X.env) use) QQ X.xe s:=by
 refine wpAny_comprehension_free (use:=use) rfl hs (vM (nM I hsc S)) S.kind S.loc (aI (hi pins s σ H _ I h) fun v s1 h1=>aI h1 fun itv s2 h2=>?_)
 obtain⟨it,fp,tn,J,H2,e,I2,T,st2,f2,q2⟩:=id h2
 subst e
 refine wpAny_newObj_type ?_ (by show 0≤sizeLine;exact Nat.zero_le _)
 have hDn:H2 s2.heap.objs.size=none:=I2.hok.fresh (Nat.le_refl _)
 obtain⟨W,⟨m0,w0⟩,turn⟩:=q2 s2.heap.objs.size hDn
 have kp3:∀ b o,s2.heap.get? b=some o->(s2.heap.push {cls:=.type "list",data:=.seq ([]:List Value).toArray}).get? b=some o:=fun b o q=>Heap.get?_push_of_some _ q
 have I3:Inv X pins σ (upd H2 s2.heap.objs.size (.lst [])) {s2 with heap:=s2.heap.push {cls:=.type "list",data:=.seq ([]:List Value).toArray}}:=
  I2.laid (t':=s2.toks) kp3 (Nat.le_refl _) ⟨Nat.zero_le _,[],0,.nil,Heap.get?_push_size _ rfl⟩
 have hlt2:∀ b∈fp,b<s2.heap.objs.size:=fun b hb=>by obtain⟨o,q,_⟩:=T.obj _ _ st2 b hb;exact Heap.lt_size q
 have f3:∀ b∈fp,b_ X pins (upd H2 s2.heap.objs.size (.lst [])) b:=fun b hb=>⟨by rw[aD (Nat.ne_of_lt (hlt2 b hb))];exact (f2 b hb).1,(f2 b hb).2⟩
 generalize hs3:({s2 with heap:=s2.heap.push {cls:=.type "list",data:=.seq ([]:List Value).toArray}}:Shared)=s3 at I3
 have st3:tn 0 s3.heap:=by rw[← hs3];exact T.keep _ _ _ st2 fun b hb o q=>kp3 b o q
 have hlt3:∀ b∈fp,b<s3.heap.objs.size:=fun b hb=>by obtain⟨o,q,_⟩:=T.obj _ _ st3 b hb;exact Heap.lt_size q
 generalize s2.heap.objs.size=D at w0 turn I3 f3 hDn
 generalize upd H2 D (.lst [])=H3 at w0 I3 f3
 refine wpAny_newFunctionEnv S.nocell (by intro y hy;cases hy) (fun h4 hns hsb=>?_) S.kind
 have kp4:∀ b o,s3.heap.get? b=some o->h4.get? b=some o:=fun b o q=>hsb.extBut b o (Nat.ne_of_lt (Heap.lt_size q)) (Heap.get?_push_of_some _ q)
 have I4:=Ck (t:=s3.toks+([]:List (Str×Value)).length) I3 hsc S f3 hlt3 hns kp4
 have st4:tn 0 h4:=T.keep _ _ _ st3 fun b hb o q=>kp4 b o q
 -- the context of the block
 have loop:∀ s4:Shared,s4={s3 with heap:=h4,toks:=s3.toks+([]:List (Str×Value)).length} ->
   codeAny (model X.prog X.w) X.A (.compLoop (.ListComp elt [⟨tg,iter,ifs,0⟩] scope pos) 0 (.ref it) (.ref D) (compEnvC scope (bR scope X.env) s3.heap.objs.size X.env))
    (compPost (model X.prog X.w) X.A X.xe use QQ (.ref D) s3.heap.objs.size) s4:=by
  rintro s4 rfl
  have fok:∀ {H':Hp},(∀ b∈fp,H' b=none)->∀ b∈fp,b_ (cu X N scope (bR scope X.env) s3.heap.objs.size s3 H3 fp pins) [] H' b:=fun {H'} hn b hb=>
   ⟨hn b hb,Nat.ne_of_lt (hlt3 b hb),q_ I3 (f3 b hb).2.1 (f3 b hb).2.2.1,.inl hb,fun x c e=>(f3 b hb).2.2.2.2.1 x c (iL (nM I3 hsc S) e),fun p hp=>(f3 b hb).2.2.2.2.2 p (by simpa [cu] using hp)⟩
  exact Cj (Y:=cu X N scope (bR scope X.env) s3.heap.objs.size s3 H3 fp pins) hx hc (hg _ _ _ _ _ _) (ht _ _ _ _ _ _) (he _ _ _ _ _ _) T fok turn (fun τ H5 s6 I6 qn=>by
   obtain⟨m6,hn6,_⟩:=I6.loc
   exact hend D _ H5 s6 (fun h' hs'=>Ce I3 f3 I6 hs') ⟨m6,hn6⟩ (I3.fpOk (Nat.le_refl _) I6.free) qn) I4 st4 (fun b hb=>(f3 b hb).1) w0
 subst hs3
 exact codeAny_compStart_list (loop _ rfl) (T.self _ 0 _ _ _ st4 (loop _ rfl))
theorem yG {X:Cx}{elt tg iter:Expr}{ifs:List Expr}{scope:Scope}{pos:Pos}{wi:TI}{g:TG}{tc:TT}{te:TE}{k:Nat}{N:List Str}{ix:List Nat}(sc:Scope)(hsc:X.env.scope=sc)(S:gG sc X.N scope k N ix)
  (hx:X.xe=fun _ _=>False) (hc:X.calm=true) (hi:PI X tg iter wi)
  (hg:∀ cl C s3 H3 fp pins,PG (cu X N scope cl C s3 H3 fp pins) tg g) (ht:∀ cl C s3 H3 fp pins,jk (cu X N scope cl C s3 H3 fp pins) ifs tc) (he:∀ cl C s3 H3 fp pins,PE (cu X N scope cl C s3 H3 fp pins) elt te)
  (hs:∀ x,foldedSetIterable iter X.env x=pure x:=by intro _;rfl):PE X (.ListComp elt [⟨tg,iter,ifs,0⟩] scope pos) (mm wi g tc te (gc k ix)):=by
 intro pins s σ H Q I h
 rw[eval_ListComp]
 show wpAny _ X.A (comprehension (.ListComp elt [⟨tg,iter,ifs,0⟩] scope pos) scope X.env _ (newList []) false (eval iter X.env) none) _ _ s
 refine vS sc hsc S hx hc hi hg ht he (use:=none) (QQ:=EP X pins σ Q) pins s σ H Q I h (fun D C H5 s6 hI hm hf q=>?_) hs
 obtain⟨m6,hn6⟩:=id hm
 exact⟨m6,hn6,fun h' hs'=>⟨.ref D,H5,hI h' hs',rfl,q⟩⟩
theorem Hg {X:Cx}{i:Nat}{x:Str}{pos' spos:Pos}{elt tg iter:Expr}{ifs:List Expr}{scope:Scope}{pos:Pos}{wi:TI}{g:TG}{tc:TT}{te:TE}{k:Nat}{N:List Str}{ix:List Nat}(hN:X.N.Nodup)(hi':X.N[i]?=some x)(hx':Loc X.env.scope x)(sc:Scope)(hsc:X.env.scope=sc)(S:gG sc X.N scope k N ix)
  (hx:X.xe=fun _ _=>False) (hc:X.calm=true) (hi:PI X tg iter wi)
  (hg:∀ cl C s3 H3 fp pins,PG (cu X N scope cl C s3 H3 fp pins) tg g) (ht:∀ cl C s3 H3 fp pins,jk (cu X N scope cl C s3 H3 fp pins) ifs tc) (he:∀ cl C s3 H3 fp pins,PE (cu X N scope cl C s3 H3 fp pins) elt te)
  (hsw:swapsWith (.ListComp elt [⟨tg,iter,ifs,0⟩] scope pos) (some (.Name x pos')) spos.line X.env=pure true:=by rfl) (hf:X.fn x=true∨X.env.scope.names.lookup x=some .local:=by first | exact .inl rfl | exact .inr rfl | assumption)
  (hs:∀ x,foldedSetIterable iter X.env x=pure x:=by intro _;rfl):PS X (.Assign [.Name x pos'] (.ListComp elt [⟨tg,iter,ifs,0⟩] scope pos) spos) (ml (mm wi g tc te (gc k ix)) (lK i)):=by
 intro pins s σ H D I h
 rw[exec_Assign_Name_used _ _ _ _ hsw]
 refine wpAny_bind (wpAny_standAt (wpAny_bind ?_))
 show wpAny _ X.A (do let _ ← comprehension (.ListComp elt [⟨tg,iter,ifs,0⟩] scope pos) scope X.env _ (newList []) false (eval iter X.env) (some (assign (.Name x pos') X.env))) _ _ s
 refine wpAny_bind (wpAny_mono (vS sc hsc S hx hc hi hg ht he (use:=some (assign (.Name x pos') X.env)) (QQ:=fun _ s'=>SP X pins D .next s') pins s σ H _ I h (fun D' C H5 s6 hI hm hfp q=>?_) hs) (fun _ s' hq=>wpAny_pure (wpAny_pure hq)) fun _ _ e=>e)
 obtain⟨m6,hn6⟩:=id hm
 have I6:Inv X pins σ H5 s6:=hI s6.heap (Heap.SameBut.refl _ _)
 show wpAny _ X.A (assign (.Name x pos') X.env (.ref D')) _ _ s6
 refine wpAny_assign_Name (zW I6 hN hi' hx' (v:=.ref D') rfl (fun s7 I7 hs7=>?_) hf)
 obtain⟨a,hsb,ha⟩:=id hs7
 have hne:C≠a:=by
  rcases ha with rfl | ha
  ·exact hfp.2.1
  ·exact fun z=>hfp.2.2.2.2.1 x a ha z.symm
 refine⟨m6,hn6.sameBut hsb hne,fun h' hs'=>⟨_,H5,?_,q⟩⟩
 have:=Inv.turned (t':=s7.toks) (it:=C) (h':=h') I7 (fun b o hb e=>(hs'.2 b hb).trans e) hfp.1 hfp.2.1 hfp.2.2.2.1 hfp.2.2.2.2.1 hfp.2.2.2.2.2
 exact this
end L2
namespace L2
theorem aj.tup {K:PySem.W.Frag}{H H':Hp}{a:Addr}{xs:List V}(e:aj H H')(h:cn K H a xs):cn K H' a xs:=by
 rcases h with (h | ⟨o,h⟩) | h
 ·exact .inl (.inl (e _ _ h))
 ·exact .inl (.inr ⟨o,e _ _ h⟩)
 ·exact .inr h
def Hw (K:PySem.W.Frag):R2:=fun x y H Q=>∃ l b xs zs,x=.ref l∧y=.ref b∧aN K H l xs∧aN K H b zs∧xs.length+zs.length≤sizeLine∧∀ p,H p=none->Q (.ref p) (upd H p (.lst (xs++zs)))
theorem Gb {X:Cx}:bX X (binaryOp .Add) (Hw X.K):=by
 intro pins s σ H x y v u Q I rx ry h
 revert h
 refine fun zqq=>L2.r6 zqq fun l b xs zs zq4 zq5 hH hB hz q=>?_
 clear zqq
 subst zq4
 subst zq5
 cases rx
 cases ry
 obtain⟨its,r,pl,hz1⟩:=I.list hH
 obtain⟨its2,r2,pl2,hz2⟩:=I.list hB
 have l1:=r.length
 have l2:=r2.length
 obtain⟨⟨cls,dd,data,sl⟩,ho,hc,n,hd⟩:=pl.isList
 obtain⟨⟨cls2,dd2,data2,sl2⟩,ho2,hc2,n2,hd2⟩:=pl2.isList
 simp only at hc hd hc2 hd2
 subst hc hd hc2 hd2
 have ea:its.toArray++its2.toArray=(its++its2).toArray:=by simp
 refine concat_meets ⟨_,ho,rfl⟩ ⟨_,ho2,rfl⟩ noFill_list_add seq_list_add PySem.F.slot_list_add PySem.F.entry_list_add (PySem.F.args_list_add_2 _ _) (list_addW l b its.toArray its2.toArray n n2 dd dd2 sl sl2 (by simp only[List.size_toArray];omega)) ⟨ho,ho2,?_⟩
 rw[ea]
 exact⟨.ref _,_,I.lnew (t':=s.toks) (r.append r2) (by rw[List.length_append];exact hz),rfl,q _ I.fresh⟩
def big:Nat:=2 ^ 1000
theorem vv {a:Int}(h:a.natAbs<big):Builtin.Int.intBits a≤2 ^ 20:=by
 unfold Builtin.Int.intBits
 by_cases h0:a=0
 ·subst h0;simp
 ·have h1:a.natAbs≠0:=by omega
  have h2:a.natAbs.log2<1000:=(Nat.log2_lt h1).mpr h
  have h3:(a==0)=false:=by simpa using h0
  rw[h3]
  simp only[Bool.false_eq_true,if_false]
  have:(2:Nat) ^ 20=1048576:=by decide
  omega
theorem EC {a:Int}(h:a.natAbs<big):a.natAbs.log2<9000:=by
 by_cases h0:a.natAbs=0
 ·rw[h0];decide +kernel
 ·have h2:a.natAbs.log2<1000:=(Nat.log2_lt h0).mpr h
  omega
def Ao (i j:Int):Prop:=(i.natAbs<big∧j.natAbs<big)∨mz i j
def Am (_ j:Int):Prop:=j≠0∧j.natAbs<big
theorem Gn {X:Cx}:bX X (binaryOp .Mult) (rI Ao fun i j=>.int (i*j)):=oB fun _ _ _ _ _ _ _ hc q=>mul_int q (hc.elim (fun z=>.of_bits (vv z.1) (vv z.2)) mz.ok)
theorem Gf {X:Cx}:bX X (binaryOp .FloorDiv) (rI Am fun i j=>.int (i.fdiv j)):=oB fun _ _ _ _ _ _ _ hc q=>floordiv_int hc.1 q (.inl (PyProof.noPylong_of_log2 (EC hc.2)))
structure dI where
 qual:Str
 params:Arguments
 body:Expr
 scope:Scope
 ps:List Str
 free:List Str
class Reg where
 reg:Str->Option dI
variable [Reg]
def fz (a:Addr)(o:Obj):HO:=.frz o (.ext fun h=>h.get? a=some o)
def j2 (H:Hp)(g:Addr)(L:dI)(cv:List V):Prop:=
 ∃ (clos:List (Str×Addr)) (pm:Value) (c':Addr) (ctv:Value) (oc:Obj) (vs:Array Value) (q:Str) (t:Tok) (φ:HO),H g=some (fz g (PySem.W.kla_obj "<lambda>" L.qual L.params L.body L.scope clos pm c' ctv))∧H c'=some (.frz oc φ)∧oc.data=.fields vs∧vs[1]?=some (.str q t)∧cv.length=clos.length ∧
  clos.map (fun z=>z.1)=L.free∧(clos.map (fun z=>z.2)).Nodup∧∀ (i:Nat) (z:Str×Addr) (v:V),clos[i]?=some z->cv[i]?=some v->∃ u o,H z.2=some (fz z.2 o)∧o.data=.cell (some u)∧RelV v u
def gM (K:PySem.W.Frag)(H:Hp)(g:Addr)(tag:Str)(cv:List V):Prop:=
 (Reg.reg tag=none∧cv=[]∧PySem.W.nsIn K mainGlobals tag=some (some (.ref g)))∨∃ L,Reg.reg tag=some L∧j2 H g L cv
theorem j2.mono {H H':Hp}{g:Addr}{L:dI}{cv:List V}(e:aj H H')(h:j2 H g L cv):j2 H' g L cv:=by
 obtain⟨clos,pm,c',ctv,oc,vs,q,t,φ,h1,h2,h3,h4,h5,h6,h7,h8⟩:=id h
 exact ⟨clos,pm,c',ctv,oc,vs,q,t,φ,e _ _ h1,e _ _ h2,h3,h4,h5,h6,h7,(fun i q v a b=>let ⟨u,o,x,y⟩:=h8 i q v a b;⟨u,o,e _ _ x,y⟩)⟩
theorem gM.mono {K:PySem.W.Frag}{H H':Hp}{g:Addr}{tag:Str}{cv:List V}(e:aj H H')(h:gM K H g tag cv):gM K H' g tag cv:=by
 rcases h with h | ⟨L,h1,h2⟩
 ·exact .inl h
 ·exact .inr ⟨L,h1,h2.mono e⟩
def clo (tag:Str)(caps:List PyData):PyData:=.dict [(.none,.str tag),(.none,.tuple caps)]
def i_ (K:PySem.W.Frag)(H:Hp)(e:Addr)(cls:Str)(fv:List (Str×V)):Prop:=
 ∃ (oe:Obj) (C:Addr) (vs:Array Value),H e=some (fz e oe)∧oe.cls=.ref C∧oe.data=.fields vs∧PySem.W.nsIn K mainGlobals cls=some (some (.ref C))∧((fv=[]∧oe.dict=none)∨∃ dx,oe.dict=some dx∧H dx=some (.xd fv))
theorem i_.mono {K:PySem.W.Frag}{H H':Hp}{e:Addr}{cls:Str}{fv:List (Str×V)}(s:aj H H')(h:i_ K H e cls fv):i_ K H' e cls fv:=by
 obtain⟨oe,C,vs,h1,h2,h3,h4,h5⟩:=id h
 refine ⟨oe,C,vs,s _ _ h1,h2,h3,h4,?_⟩
 rcases h5 with h5 | ⟨dx,h5,h6⟩
 ·exact .inl h5
 ·exact .inr ⟨dx,h5,s _ _ h6⟩
def bF (cls:Str)(fd:List PyData):PyData:=.dict [(.bool true,.str cls),(.none,.tuple fd)]
def ku (fv:List (Str×V)):List PyData:=fv.map fun p=>.str p.1
def mP (K:PySem.W.Frag)(H:Hp)(a:Addr)(cls:Str)(fs:List (Str×V)):Prop:=∃ C dx,H a=some (.ins C dx fs)∧PySem.W.nsIn K mainGlobals cls=some (some (.ref C))
theorem mP.mono {K:PySem.W.Frag}{H H':Hp}{a:Addr}{cls:Str}{fs:List (Str×V)}(s:aj H H')(h:mP K H a cls fs):mP K H' a cls fs:=by
 obtain⟨C,dx,h1,h2⟩:=id h
 exact ⟨C,dx,s _ _ h1,h2⟩
def Fq (cls:Str)(ns:List Str)(fd:List PyData):PyData:=.dict [(.bool false,.str cls),(.none,.tuple (ns.map .str)),(.none,.tuple fd)]
mutual
inductive az (K:PySem.W.Frag)(H:Hp):V->PyData->Prop
 | non:az K H .non .none
 | bl (b:Bool):az K H (.bl b) (.bool b)
 | int (i:Int):az K H (.int i) (.int i)
 | str (x:Str):az K H (.str x) (.str x)
 | tup {a:Addr} {vs:List V} {ds:List PyData}:cn K H a vs->ar K H vs ds->az K H (.ref a) (.tuple ds)
 | lst {a:Addr} {vs:List V} {ds:List PyData}:aN K H a vs->ar K H vs ds->az K H (.ref a) (.list ds)
 | fn {g:Addr} {tag:Str} {cv:List V} {caps:List PyData}:gM K H g tag cv->ar K H cv caps->az K H (.ref g) (.dict [(.none,.str tag),(.none,.tuple caps)])
 | exc {e:Addr} {cls:Str} {fv:List (Str×V)} {fd:List PyData}:i_ K H e cls fv->ar K H (fv.map (·.2)) fd->az K H (.ref e) (.dict [(.bool true,.str cls),(.none,.tuple (ku fv++fd))])
 | obj {a:Addr} {cls:Str} {fs:List (Str×V)} {fd:List PyData}:mP K H a cls fs->ar K H (fs.map (·.2)) fd->az K H (.ref a) (.dict [(.bool false,.str cls),(.none,.tuple ((fs.map (·.1)).map .str)),(.none,.tuple fd)])
inductive ar (K:PySem.W.Frag)(H:Hp):List V->List PyData->Prop
 | nil:ar K H [] []
 | cons {v:V} {d:PyData} {vs:List V} {ds:List PyData}:az K H v d->ar K H vs ds->ar K H (v::vs) (d::ds)
end
section
variable {K:PySem.W.Frag}{H H':Hp}
theorem az.mono (e:aj H H'){v:V}{d:PyData}(h:az K H v d):az K H' v d:=
 az.rec (motive_1:=fun v d _=>az K H' v d) (motive_2:=fun vs ds _=>ar K H' vs ds) .non .bl .int .str (fun h _ r=>.tup (e.tup h) r) (fun h _ r=>.lst (e.seq h) r) (fun h _ r=>.fn (h.mono e) r) (fun h _ r=>.exc (h.mono e) r) (fun h _ r=>.obj (h.mono e) r) .nil (fun _ _ a b=>.cons a b) h
theorem ar.mono (e:aj H H'){vs:List V}{ds:List PyData}(h:ar K H vs ds):ar K H' vs ds:=
 ar.rec (motive_1:=fun v d _=>az K H' v d) (motive_2:=fun vs ds _=>ar K H' vs ds) .non .bl .int .str (fun h _ r=>.tup (e.tup h) r) (fun h _ r=>.lst (e.seq h) r) (fun h _ r=>.fn (h.mono e) r) (fun h _ r=>.exc (h.mono e) r) (fun h _ r=>.obj (h.mono e) r) .nil (fun _ _ a b=>.cons a b) h
theorem ar.ind {M:List V->List PyData->Prop}(n:M [] [])(c:∀ {v d vs ds},az K H v d->ar K H vs ds->M vs ds->M (v::vs) (d::ds)){vs:List V}{ds:List PyData}(h:ar K H vs ds):M vs ds:=
 ar.rec (motive_1:=fun _ _ _=>True) (motive_2:=fun vs ds _=>M vs ds) trivial (fun _=>trivial) (fun _=>trivial) (fun _=>trivial) (fun _ _ _=>trivial) (fun _ _ _=>trivial) (fun _ _ _=>trivial) (fun _ _ _=>trivial) (fun _ _ _=>trivial) n (fun h r _ ih=>c h r ih) h
theorem ar.length {vs:List V}{ds:List PyData}(h:ar K H vs ds):vs.length=ds.length:=h.ind (M:=fun vs ds=>vs.length=ds.length) rfl fun _ _ ih=>congrArg (·+1) ih
theorem ar.get {vs:List V}{ds:List PyData}{i:Nat}{d:PyData}(h:ar K H vs ds):ds[i]?=some d->∃ v,vs[i]?=some v∧az K H v d:=
 h.ind (M:=fun vs ds=>∀ i,ds[i]?=some d->∃ v,vs[i]?=some v∧az K H v d) (fun _ e=>by rw[List.getElem?_nil] at e;cases e) (fun h _ ih i=>by
  cases i with
  | zero=>intro e;cases e;exact⟨_,rfl,h⟩
  | succ i=>exact ih i) i
theorem ar.append {vs ws:List V}{ds es:List PyData}(h:ar K H vs ds)(s:ar K H ws es):ar K H (vs++ws) (ds++es):=h.ind (M:=fun vs ds=>ar K H (vs++ws) (ds++es)) s fun h _ ih=>.cons h ih
theorem ar.set {v:V}{d:PyData}(h:az K H v d):∀ {vs:List V} {ds:List PyData} (i:Nat),ar K H vs ds->ar K H (vs.set i v) (ds.set i d)
 | _,_,_,.nil=>.nil
 | _,_,0,.cons _ r=>.cons h r
 | _,_,i+1,.cons q r=>.cons q (ar.set h i r)
theorem ar.take:∀ {vs:List V} {ds:List PyData} (n:Nat),ar K H vs ds->ar K H (vs.take n) (ds.take n)
 | _,_,0,_=>.nil
 | _,_,_+1,.nil=>.nil
 | _,_,n+1,.cons h r=>.cons h (ar.take n r)
theorem ar.drop:∀ {vs:List V} {ds:List PyData} (n:Nat),ar K H vs ds->ar K H (vs.drop n) (ds.drop n)
 | _,_,0,r=>r
 | _,_,_+1,.nil=>.nil
 | _,_,n+1,.cons _ r=>ar.drop n r
theorem ar.ints:∀ ns:List Int,ar K H (ns.map V.int) (ns.map PyData.int)
 | []=>.nil
 | n::r=>.cons (.int n) (ar.ints r)
theorem ar.atI {vs:List V}{ds:List PyData}{i:Int}{d:PyData}(r:ar K H vs ds)(h:atI ds i=some d):∃ v,L2.atI vs i=some v∧az K H v d:=by
 unfold L2.atI at h ⊢
 rw[← r.length] at h
 cases e:dD vs.length i with
 | none=>rw[e] at h;cases h
 | some j=>
  rw[e] at h
  obtain⟨v,h1,h2⟩:=r.get h
  exact⟨v,h1,h2⟩
inductive Sc:V->PyData->Prop
 | non:Sc .non .none
 | bl (b:Bool):Sc (.bl b) (.bool b)
 | int (i:Int):Sc (.int i) (.int i)
 | str (x:Str):Sc (.str x) (.str x)
theorem Sc.den {v:V}{d:PyData}(h:Sc v d):az K H v d:=by
 cases h with
 | non=>exact .non
 | bl b=>exact .bl b
 | int i=>exact .int i
 | str x=>exact .str x
theorem eI {v:V}{i:Int}(h:az K H v (.int i)):v=.int i:=by cases h;rfl
theorem jv {v:V}{b:Bool}(h:az K H v (.bool b)):v=.bl b:=by cases h;rfl
inductive uq (K:PySem.W.Frag)(H:Hp)(v:V)(ds:List PyData):Prop
 | mk (a:Addr) (vs:List V) (e:v=.ref a) (q:aN K H a vs) (r:ar K H vs ds):uq K H v ds
inductive ur (K:PySem.W.Frag)(H:Hp)(v:V)(ds:List PyData):Prop
 | mk (a:Addr) (vs:List V) (e:v=.ref a) (q:cn K H a vs) (r:ar K H vs ds):ur K H v ds
theorem df {v:V}{ds:List PyData}(h:az K H v (.list ds)):uq K H v ds:=by cases h with | lst q r=>exact⟨_,_,rfl,q,r⟩
theorem nQ {v:V}{ds:List PyData}(h:az K H v (.tuple ds)):ur K H v ds:=by cases h with | tup q r=>exact⟨_,_,rfl,q,r⟩
theorem Cr {v:V}{tag:Str}{caps:List PyData}(h:az K H v (clo tag caps)):∃ g cv,v=.ref g∧gM K H g tag cv∧ar K H cv caps:=by
 unfold clo at h
 cases h with | fn q r=>exact⟨_,_,rfl,q,r⟩
theorem nR {vs:List V}{d:PyData}{ds:List PyData}(h:ar K H vs (d::ds)):∃ v ws,vs=v::ws∧az K H v d∧ar K H ws ds:=by cases h with | cons q r=>exact⟨_,_,rfl,q,r⟩
theorem qS {vs:List V}(h:ar K H vs []):vs=[]:=by cases h;rfl
def lf:PyData->Bool
 | .list _=>false
 | .dict _=>false
 | .tuple ds=>go ds
 | _=>true
where go:List PyData->Bool
 | []=>true
 | d::r=>lf d&&go r
end
section
variable {X:Cx}{pins:List (Addr×Obj)}{σ:St}{H:Hp}{s:Shared}
theorem az.reads (I:Inv X pins σ H s){v:V}{d:PyData}{u:Value}(h:az X.K H v d)(z:d.canLay0=true)(r:RelV v u):∃ as,Reads s.heap u d as:=by
 refine az.rec (motive_1:=fun v d _=>d.canLay0=true->∀ u,RelV v u->∃ as,Reads s.heap u d as) (motive_2:=fun vs ds _=>PyData.canLayAll0 ds=true->∀ us,aG vs us->∃ as,ReadsAll s.heap us ds as) ?_ ?_ ?_ ?_ ?_ ?_ (fun _ _ _ z=>by simp[PyData.canLay0] at z) (fun _ _ _ z=>by simp[PyData.canLay0] at z) (fun _ _ _ z=>by simp[PyData.canLay0] at z) ?_ ?_ h z u r
 ·intro _ u r;cases r;exact⟨_,Reads.none⟩
 ·intro b _ u r;cases r;exact⟨_,Reads.bool b⟩
 ·intro i _ u r;obtain⟨t,rfl⟩:=r;exact⟨_,Reads.int i t⟩
 ·intro x _ u r;obtain⟨t,rfl⟩:=r;exact⟨_,Reads.str x t⟩
 ·intro _ _ _ h _ ih z u r
  cases r
  obtain⟨its,rv,⟨o,e,c,n,d⟩,_⟩:=I.tuple h
  obtain⟨as,z⟩:=ih (by simpa [PyData.canLay0] using z) its rv
  exact⟨as,reads_tuple_at e c d (by simpa using z)⟩
 ·intro _ _ _ h _ ih z u r
  cases r
  obtain⟨its,rv,⟨o,n,e,c,_,d⟩,_⟩:=I.list h
  obtain⟨as,z⟩:=ih (by simpa [PyData.canLay0] using z) its rv
  exact⟨_,reads_list_at e c d (by simpa using z)⟩
 ·intro _ us r;cases r;exact⟨_,ReadsAll.nil⟩
 ·intro _ _ _ _ _ _ ih1 ih2 z us r
  rw[PyData.canLayAll0,Bool.and_eq_true] at z
  cases r with
  | cons r1 r2=>
   obtain⟨as,z1⟩:=ih1 z.1 _ r1
   obtain⟨bs,y⟩:=ih2 z.2 _ r2
   exact⟨_,ReadsAll.cons z1 y⟩
def y9 (K:PySem.W.Frag):R2:=fun x y H Q=>∃ da db,az K H x da∧az K H y db∧SeqAt.shaped da=true∧SeqAt.shaped db=true∧Q (.bl (PyData.eqv da db)) H
def zd (K:PySem.W.Frag):R2:=fun x y H Q=>∃ da db,az K H x da∧az K H y db∧SeqAt.shaped da=true∧SeqAt.shaped db=true∧Q (.bl (!PyData.eqv da db)) H
theorem Ge (hu:X.A.units+64<cLine):bX X (compareOp .Eq) (y9 X.K):=by
 intro pins s σ H x y v u Q I rx ry h
 obtain⟨da,db,ha,hb,sa,sb,q⟩:=id h
 obtain⟨as,ra⟩:=ha.reads I (SeqAt.canLay_of_shaped sa) rx
 obtain⟨bs,rb⟩:=hb.reads I (SeqAt.canLay_of_shaped sb) ry
 exact eq_dataH ra rb sa sb hu (wk I q rfl)
theorem Gp (hu:X.A.units+64<cLine):bX X (compareOp .NotEq) (zd X.K):=by
 intro pins s σ H x y v u Q I rx ry h
 obtain⟨da,db,ha,hb,sa,sb,q⟩:=id h
 obtain⟨as,ra⟩:=ha.reads I (SeqAt.canLay_of_shaped sa) rx
 obtain⟨bs,rb⟩:=hb.reads I (SeqAt.canLay_of_shaped sb) ry
 exact ne_dataH ra rb sa sb hu (wk I q rfl)
end
inductive bP where
 | l (vs:List V) | i (C dx:Addr) (fs:List (Str×V))
def bP.ho:bP->HO
 | .l vs=>.lst vs
 | .i C dx fs=>.ins C dx fs
open Classical in
def ah (H:Hp)(P:Addr->Prop):Hp:=fun b=>if P b then none else H b
def uni (hid:Addr->Prop)(ow:List Addr):Addr->Prop:=fun b=>hid b∨b∈ow
theorem de {H:Hp}{P:Addr->Prop}{b:Addr}(h:P b):ah H P b=none:=by unfold ah;rw[if_pos h]
theorem bb {H:Hp}{P:Addr->Prop}{b:Addr}(h:¬ P b):ah H P b=H b:=by unfold ah;rw[if_neg h]
theorem bA (H:Hp)(P:Addr->Prop):aj (ah H P) H:=fun b o e=>by
 by_cases h:P b
 ·rw[de h] at e;cases e
 ·rw[bb h] at e;exact e
theorem aY {H H':Hp}(e:aj H H')(P:Addr->Prop):aj (ah H P) (ah H' P):=fun b o q=>by
 by_cases h:P b
 ·rw[de h] at q;cases q
 ·rw[bb h] at q ⊢;exact e b o q
theorem fR {H:Hp}{P Q:Addr->Prop}(h:∀ b,P b->Q b):aj (ah H Q) (ah H P):=fun b o q=>by
 by_cases hq:Q b
 ·rw[de hq] at q;cases q
 ·rw[bb hq] at q
  rw[bb fun z=>hq (h b z)]
  exact q
theorem Cq (H:Hp):ah H (fun _=>False)=H:=by funext b;exact bb (fun z=>z)
theorem gF (hid:Addr->Prop):uni hid []=hid:=by
 funext b
 unfold uni
 simp
theorem pd {hid:Addr->Prop}{ow:List Addr}{b:Addr}(h:b∈ow):uni hid ow b:=.inr h
theorem fq (H:Hp)(hid:Addr->Prop)(ow:List Addr):aj (ah H (uni hid ow)) (ah H hid):=fR fun _ z=>.inl z
theorem iQ {H:Hp}{l:Addr}{P:Addr->Prop}{o:HO}(h:P l):ah (upd H l o) P=ah H P:=by
 funext b
 by_cases hb:P b
 ·rw[de hb,de hb]
 ·rw[bb hb,bb hb,aD]
  rintro rfl
  exact hb h
theorem bK {H:Hp}{p:Addr}{o:HO}(h:H p=none):aj H (upd H p o):=fun b u e=>by rw[aD (bV e h)];exact e
theorem ju {H H':Hp}{p:Addr}{P Q:Addr->Prop}(s:aj H H')(h:H p=none)(hq:∀ b,Q b->P b∨b=p):aj (ah H P) (ah H' Q):=fun b u e=>by
 by_cases hb:P b
 ·rw[de hb] at e;cases e
 ·rw[bb hb] at e
  have hne:b≠p:=bV e h
  rw[bb fun z=>(hq b z).elim hb hne]
  exact s b u e
section
variable {K:PySem.W.Frag}{H:Hp}{hid:Addr->Prop}{ow:List Addr}
theorem vW (hi:∀ l∈ow,∃ vs:bP,H l=some vs.ho){a:Addr}{o:HO}(e:ah H hid a=some o)(n:∀ vs:bP,o≠vs.ho):ah H (uni hid ow) a=some o:=by
 have e':=bA _ _ a o e
 have nh:¬ hid a:=fun z=>by rw[de z] at e;cases e
 rw[bb]
 ·exact e'
 ·rintro (z | z)
  ·exact nh z
  ·obtain⟨vs,e2⟩:=hi a z
   rw[e'] at e2
   exact n vs (Option.some.inj e2)
theorem cn.clean (hi:∀ l∈ow,∃ vs:bP,H l=some vs.ho){a:Addr}{vs:List V}(q:cn K (ah H hid) a vs):cn K (ah H (uni hid ow)) a vs:=by
 rcases q with (q | ⟨o,q⟩) | q
 ·exact .inl (.inl (vW hi q fun w z=>by cases w <;> cases z))
 ·exact .inl (.inr ⟨o,vW hi q fun w z=>by cases w <;> cases z⟩)
 ·exact .inr q
theorem az.clean (hi:∀ l∈ow,∃ vs:bP,H l=some vs.ho){v:V}{d:PyData}(z:az K (ah H hid) v d):lf d=true->az K (ah H (uni hid ow)) v d:=
 az.rec (motive_1:=fun v d _=>lf d=true->az K (ah H (uni hid ow)) v d) (motive_2:=fun vs ds _=>lf.go ds=true->ar K (ah H (uni hid ow)) vs ds) (fun _=>.non) (fun b _=>.bl b) (fun i _=>.int i) (fun x _=>.str x) (fun q _ r h=>.tup (q.clean hi) (r h)) (fun _ _ _ h=>by cases h) (fun _ _ _ h=>by cases h) (fun _ _ _ h=>by cases h) (fun _ _ _ h=>by cases h) (fun _=>.nil) (fun _ _ a b h=>by rw[lf.go,Bool.and_eq_true] at h;exact .cons (a h.1) (b h.2)) z
theorem ar.clean (hi:∀ l∈ow,∃ vs:bP,H l=some vs.ho){vs:List V}{ds:List PyData}(z:ar K (ah H hid) vs ds):lf.go ds=true->ar K (ah H (uni hid ow)) vs ds:=
 ar.rec (motive_1:=fun v d _=>lf d=true->az K (ah H (uni hid ow)) v d) (motive_2:=fun vs ds _=>lf.go ds=true->ar K (ah H (uni hid ow)) vs ds) (fun _=>.non) (fun b _=>.bl b) (fun i _=>.int i) (fun x _=>.str x) (fun q _ r h=>.tup (q.clean hi) (r h)) (fun _ _ _ h=>by cases h) (fun _ _ _ h=>by cases h) (fun _ _ _ h=>by cases h) (fun _ _ _ h=>by cases h) (fun _=>.nil) (fun _ _ a b h=>by rw[lf.go,Bool.and_eq_true] at h;exact .cons (a h.1) (b h.2)) z
end
abbrev aa:=List (Option PyData)
inductive Ty where
 | cl:Ty
 | lst:Ty->Ty
 | tup:List Ty->Ty
 | io:Addr->Ty
 | rc:Option Addr->Str->List Str->List Ty->Ty
 | nw:Ty
mutual
inductive a_ (K:PySem.W.Frag)(H C:Hp):Ty->V->PyData->List Addr->Prop
 | cl {v:V} {d:PyData}:az K C v d->a_ K H C .cl v d []
 | non {t:Ty}:a_ K H C t .non .none []
 | lst {t:Ty} {a:Addr} {vs:List V} {ds:List PyData} {as:List Addr}:H a=some (.lst vs)->bq K H C t vs ds as->a∉as->a_ K H C (.lst t) (.ref a) (.list ds) (a::as)
 | tup {ts:List Ty} {a:Addr} {vs:List V} {ds:List PyData} {as:List Addr}:cn K C a vs->bQ K H C ts vs ds as->a_ K H C (.tup ts) (.ref a) (.tuple ds) as
 | io {l:Addr} {vs:List V} {ds:List PyData}:H l=some (.lst vs)->ar K C vs ds->a_ K H C (.io l) (.ref l) (.list ds) [l]
 | rc {oa:Option Addr} {cls:Str} {ns:List Str} {ts:List Ty} {a D dx:Addr} {fs:List (Str×V)} {ds:List PyData} {as:List Addr}:(∀ b,oa=some b->b=a)->H a=some (.ins D dx fs)->PySem.W.nsIn K mainGlobals cls=some (some (.ref D))->fs.map (·.1)=ns->bQ K H C ts (fs.map (·.2)) ds as->a∉as->a_ K H C (.rc oa cls ns ts) (.ref a) (Fq cls ns ds) (a::as)
 | nw {v:V} {d:PyData} {as:List Addr}:(∀ p∈as,∃ vs:bP,H p=some vs.ho)->az K (ah H fun b=>b∉as) v d->a_ K H C .nw v d as
inductive bq (K:PySem.W.Frag)(H C:Hp):Ty->List V->List PyData->List Addr->Prop
 | nil {t:Ty}:bq K H C t [] [] []
 | cons {t:Ty} {v:V} {d:PyData} {vs:List V} {ds:List PyData} {as bs:List Addr}:a_ K H C t v d as->bq K H C t vs ds bs->(∀ p∈as,p∉bs)->bq K H C t (v::vs) (d::ds) (as++bs)
inductive bQ (K:PySem.W.Frag)(H C:Hp):List Ty->List V->List PyData->List Addr->Prop
 | nil:bQ K H C [] [] [] []
 | cons {t:Ty} {ts:List Ty} {v:V} {d:PyData} {vs:List V} {ds:List PyData} {as bs:List Addr}:a_ K H C t v d as->bQ K H C ts vs ds bs->(∀ p∈as,p∉bs)->bQ K H C (t::ts) (v::vs) (d::ds) (as++bs)
end
section
variable {K:PySem.W.Frag}{H H' C C' G:Hp}
theorem sU {G:Hp}{as:List Addr}(k:∀ p∈as,∀ o,H p=some o->G p=some o):aj (ah H fun b=>b∉as) G:=fun b o e=>by
 by_cases h:b∈as
 ·rw[bb (fun z=>z h)] at e
  exact k b h o e
 ·rw[de h] at e
  cases e
theorem sV {G:Hp}{as:List Addr}(k:∀ p∈as,∀ o,H p=some o->G p=some o):aj (ah H fun b=>b∉as) (ah G fun b=>b∉as):=fun b o e=>by
 by_cases h:b∈as
 ·rw[bb (fun z=>z h)] at e ⊢
  exact k b h o e
 ·rw[de h] at e
  cases e
theorem a_.mono (c:aj C C'){t:Ty}{v:V}{d:PyData}{as:List Addr}(h:a_ K H C t v d as):(∀ p∈as,∀ o,H p=some o->H' p=some o)->a_ K H' C' t v d as:=
 a_.rec (motive_1:=fun t v d as _=>(∀ p∈as,∀ o,H p=some o->H' p=some o)->a_ K H' C' t v d as) (motive_2:=fun t v d as _=>(∀ p∈as,∀ o,H p=some o->H' p=some o)->bq K H' C' t v d as) (motive_3:=fun t v d as _=>(∀ p∈as,∀ o,H p=some o->H' p=some o)->bQ K H' C' t v d as) (fun h _=>.cl (h.mono c)) (fun _=>.non) (fun h _ n r k=>.lst (k _ List.mem_cons_self _ h) (r fun p hp=>k p (List.mem_cons_of_mem _ hp)) n) (fun h _ r k=>.tup (c.tup h) (r k)) (fun h q k=>.io (k _ (List.mem_singleton.mpr rfl) _ h) (q.mono c)) (fun ho h hn e _ n r k=>.rc ho (k _ List.mem_cons_self _ h) hn e (r fun p hp=>k p (List.mem_cons_of_mem _ hp)) n) (fun l q k=>.nw (fun p hp=>(l p hp).imp fun o e=>k p hp _ e) (q.mono (sV k))) (fun _=>.nil) (fun _ _ n h r k=>.cons (h fun p hp=>k p (List.mem_append_left _ hp)) (r fun p hp=>k p (List.mem_append_right _ hp)) n) (fun _=>.nil) (fun _ _ n h r k=>.cons (h fun p hp=>k p (List.mem_append_left _ hp)) (r fun p hp=>k p (List.mem_append_right _ hp)) n) h
theorem bq.mono (c:aj C C'){t:Ty}{v:List V}{d:List PyData}{as:List Addr}(h:bq K H C t v d as):(∀ p∈as,∀ o,H p=some o->H' p=some o)->bq K H' C' t v d as:=
 bq.rec (motive_1:=fun t v d as _=>(∀ p∈as,∀ o,H p=some o->H' p=some o)->a_ K H' C' t v d as) (motive_2:=fun t v d as _=>(∀ p∈as,∀ o,H p=some o->H' p=some o)->bq K H' C' t v d as) (motive_3:=fun t v d as _=>(∀ p∈as,∀ o,H p=some o->H' p=some o)->bQ K H' C' t v d as) (fun h _=>.cl (h.mono c)) (fun _=>.non) (fun h _ n r k=>.lst (k _ List.mem_cons_self _ h) (r fun p hp=>k p (List.mem_cons_of_mem _ hp)) n) (fun h _ r k=>.tup (c.tup h) (r k)) (fun h q k=>.io (k _ (List.mem_singleton.mpr rfl) _ h) (q.mono c)) (fun ho h hn e _ n r k=>.rc ho (k _ List.mem_cons_self _ h) hn e (r fun p hp=>k p (List.mem_cons_of_mem _ hp)) n) (fun l q k=>.nw (fun p hp=>(l p hp).imp fun o e=>k p hp _ e) (q.mono (sV k))) (fun _=>.nil) (fun _ _ n h r k=>.cons (h fun p hp=>k p (List.mem_append_left _ hp)) (r fun p hp=>k p (List.mem_append_right _ hp)) n) (fun _=>.nil) (fun _ _ n h r k=>.cons (h fun p hp=>k p (List.mem_append_left _ hp)) (r fun p hp=>k p (List.mem_append_right _ hp)) n) h
theorem bQ.mono (c:aj C C'){t:List Ty}{v:List V}{d:List PyData}{as:List Addr}(h:bQ K H C t v d as):(∀ p∈as,∀ o,H p=some o->H' p=some o)->bQ K H' C' t v d as:=
 bQ.rec (motive_1:=fun t v d as _=>(∀ p∈as,∀ o,H p=some o->H' p=some o)->a_ K H' C' t v d as) (motive_2:=fun t v d as _=>(∀ p∈as,∀ o,H p=some o->H' p=some o)->bq K H' C' t v d as) (motive_3:=fun t v d as _=>(∀ p∈as,∀ o,H p=some o->H' p=some o)->bQ K H' C' t v d as) (fun h _=>.cl (h.mono c)) (fun _=>.non) (fun h _ n r k=>.lst (k _ List.mem_cons_self _ h) (r fun p hp=>k p (List.mem_cons_of_mem _ hp)) n) (fun h _ r k=>.tup (c.tup h) (r k)) (fun h q k=>.io (k _ (List.mem_singleton.mpr rfl) _ h) (q.mono c)) (fun ho h hn e _ n r k=>.rc ho (k _ List.mem_cons_self _ h) hn e (r fun p hp=>k p (List.mem_cons_of_mem _ hp)) n) (fun l q k=>.nw (fun p hp=>(l p hp).imp fun o e=>k p hp _ e) (q.mono (sV k))) (fun _=>.nil) (fun _ _ n h r k=>.cons (h fun p hp=>k p (List.mem_append_left _ hp)) (r fun p hp=>k p (List.mem_append_right _ hp)) n) (fun _=>.nil) (fun _ _ n h r k=>.cons (h fun p hp=>k p (List.mem_append_left _ hp)) (r fun p hp=>k p (List.mem_append_right _ hp)) n) h
theorem a_.raw (c:aj C G){t:Ty}{v:V}{d:PyData}{as:List Addr}(h:a_ K H C t v d as):(∀ p∈as,∀ o,H p=some o->G p=some o)->az K G v d:=
 a_.rec (motive_1:=fun t v d as _=>(∀ p∈as,∀ o,H p=some o->G p=some o)->az K G v d) (motive_2:=fun t v d as _=>(∀ p∈as,∀ o,H p=some o->G p=some o)->ar K G v d) (motive_3:=fun t v d as _=>(∀ p∈as,∀ o,H p=some o->G p=some o)->ar K G v d) (fun h _=>h.mono c) (fun _=>.non) (fun h _ n r k=>.lst (aN.of (k _ List.mem_cons_self _ h)) (r fun p hp=>k p (List.mem_cons_of_mem _ hp))) (fun h _ r k=>.tup (c.tup h) (r k)) (fun h q k=>.lst (aN.of (k _ (List.mem_singleton.mpr rfl) _ h)) (q.mono c)) (fun ho h hn e _ n r k=>e▸az.obj ⟨_,_,k _ List.mem_cons_self _ h,hn⟩ (r fun p hp=>k p (List.mem_cons_of_mem _ hp))) (fun _ q k=>q.mono (sU k)) (fun _=>.nil) (fun _ _ n h r k=>.cons (h fun p hp=>k p (List.mem_append_left _ hp)) (r fun p hp=>k p (List.mem_append_right _ hp))) (fun _=>.nil) (fun _ _ n h r k=>.cons (h fun p hp=>k p (List.mem_append_left _ hp)) (r fun p hp=>k p (List.mem_append_right _ hp))) h
theorem bq.raw (c:aj C G){t:Ty}{v:List V}{d:List PyData}{as:List Addr}(h:bq K H C t v d as):(∀ p∈as,∀ o,H p=some o->G p=some o)->ar K G v d:=
 bq.rec (motive_1:=fun t v d as _=>(∀ p∈as,∀ o,H p=some o->G p=some o)->az K G v d) (motive_2:=fun t v d as _=>(∀ p∈as,∀ o,H p=some o->G p=some o)->ar K G v d) (motive_3:=fun t v d as _=>(∀ p∈as,∀ o,H p=some o->G p=some o)->ar K G v d) (fun h _=>h.mono c) (fun _=>.non) (fun h _ n r k=>.lst (aN.of (k _ List.mem_cons_self _ h)) (r fun p hp=>k p (List.mem_cons_of_mem _ hp))) (fun h _ r k=>.tup (c.tup h) (r k)) (fun h q k=>.lst (aN.of (k _ (List.mem_singleton.mpr rfl) _ h)) (q.mono c)) (fun ho h hn e _ n r k=>e▸az.obj ⟨_,_,k _ List.mem_cons_self _ h,hn⟩ (r fun p hp=>k p (List.mem_cons_of_mem _ hp))) (fun _ q k=>q.mono (sU k)) (fun _=>.nil) (fun _ _ n h r k=>.cons (h fun p hp=>k p (List.mem_append_left _ hp)) (r fun p hp=>k p (List.mem_append_right _ hp))) (fun _=>.nil) (fun _ _ n h r k=>.cons (h fun p hp=>k p (List.mem_append_left _ hp)) (r fun p hp=>k p (List.mem_append_right _ hp))) h
theorem bQ.raw (c:aj C G){t:List Ty}{v:List V}{d:List PyData}{as:List Addr}(h:bQ K H C t v d as):(∀ p∈as,∀ o,H p=some o->G p=some o)->ar K G v d:=
 bQ.rec (motive_1:=fun t v d as _=>(∀ p∈as,∀ o,H p=some o->G p=some o)->az K G v d) (motive_2:=fun t v d as _=>(∀ p∈as,∀ o,H p=some o->G p=some o)->ar K G v d) (motive_3:=fun t v d as _=>(∀ p∈as,∀ o,H p=some o->G p=some o)->ar K G v d) (fun h _=>h.mono c) (fun _=>.non) (fun h _ n r k=>.lst (aN.of (k _ List.mem_cons_self _ h)) (r fun p hp=>k p (List.mem_cons_of_mem _ hp))) (fun h _ r k=>.tup (c.tup h) (r k)) (fun h q k=>.lst (aN.of (k _ (List.mem_singleton.mpr rfl) _ h)) (q.mono c)) (fun ho h hn e _ n r k=>e▸az.obj ⟨_,_,k _ List.mem_cons_self _ h,hn⟩ (r fun p hp=>k p (List.mem_cons_of_mem _ hp))) (fun _ q k=>q.mono (sU k)) (fun _=>.nil) (fun _ _ n h r k=>.cons (h fun p hp=>k p (List.mem_append_left _ hp)) (r fun p hp=>k p (List.mem_append_right _ hp))) (fun _=>.nil) (fun _ _ n h r k=>.cons (h fun p hp=>k p (List.mem_append_left _ hp)) (r fun p hp=>k p (List.mem_append_right _ hp))) h
theorem a_.lists {t:Ty}{v:V}{d:PyData}{as:List Addr}(h:a_ K H C t v d as):∀ p∈as,∃ vs:bP,H p=some vs.ho:=
 a_.rec (motive_1:=fun t v d as _=>∀ p∈as,∃ vs:bP,H p=some vs.ho) (motive_2:=fun t v d as _=>∀ p∈as,∃ vs:bP,H p=some vs.ho) (motive_3:=fun t v d as _=>∀ p∈as,∃ vs:bP,H p=some vs.ho) (fun _ p hp=>absurd hp List.not_mem_nil) (fun p hp=>absurd hp List.not_mem_nil) (fun h _ n r p hp=>(List.mem_cons.mp hp).elim (fun z=>⟨.l _,z▸h⟩) (r p)) (fun _ _ r p hp=>r p hp) (fun h _ p hp=>⟨.l _,(List.mem_singleton.mp hp)▸h⟩) (fun _ h _ _ _ n r p hp=>(List.mem_cons.mp hp).elim (fun z=>⟨.i _ _ _,z▸h⟩) (r p)) (fun l _ p hp=>l p hp) (fun p hp=>absurd hp List.not_mem_nil) (fun _ _ n h r p hp=>(List.mem_append.mp hp).elim (h p) (r p)) (fun p hp=>absurd hp List.not_mem_nil) (fun _ _ n h r p hp=>(List.mem_append.mp hp).elim (h p) (r p)) h
theorem bq.lists {t:Ty}{v:List V}{d:List PyData}{as:List Addr}(h:bq K H C t v d as):∀ p∈as,∃ vs:bP,H p=some vs.ho:=
 bq.rec (motive_1:=fun t v d as _=>∀ p∈as,∃ vs:bP,H p=some vs.ho) (motive_2:=fun t v d as _=>∀ p∈as,∃ vs:bP,H p=some vs.ho) (motive_3:=fun t v d as _=>∀ p∈as,∃ vs:bP,H p=some vs.ho) (fun _ p hp=>absurd hp List.not_mem_nil) (fun p hp=>absurd hp List.not_mem_nil) (fun h _ n r p hp=>(List.mem_cons.mp hp).elim (fun z=>⟨.l _,z▸h⟩) (r p)) (fun _ _ r p hp=>r p hp) (fun h _ p hp=>⟨.l _,(List.mem_singleton.mp hp)▸h⟩) (fun _ h _ _ _ n r p hp=>(List.mem_cons.mp hp).elim (fun z=>⟨.i _ _ _,z▸h⟩) (r p)) (fun l _ p hp=>l p hp) (fun p hp=>absurd hp List.not_mem_nil) (fun _ _ n h r p hp=>(List.mem_append.mp hp).elim (h p) (r p)) (fun p hp=>absurd hp List.not_mem_nil) (fun _ _ n h r p hp=>(List.mem_append.mp hp).elim (h p) (r p)) h
theorem bQ.lists {t:List Ty}{v:List V}{d:List PyData}{as:List Addr}(h:bQ K H C t v d as):∀ p∈as,∃ vs:bP,H p=some vs.ho:=
 bQ.rec (motive_1:=fun t v d as _=>∀ p∈as,∃ vs:bP,H p=some vs.ho) (motive_2:=fun t v d as _=>∀ p∈as,∃ vs:bP,H p=some vs.ho) (motive_3:=fun t v d as _=>∀ p∈as,∃ vs:bP,H p=some vs.ho) (fun _ p hp=>absurd hp List.not_mem_nil) (fun p hp=>absurd hp List.not_mem_nil) (fun h _ n r p hp=>(List.mem_cons.mp hp).elim (fun z=>⟨.l _,z▸h⟩) (r p)) (fun _ _ r p hp=>r p hp) (fun h _ p hp=>⟨.l _,(List.mem_singleton.mp hp)▸h⟩) (fun _ h _ _ _ n r p hp=>(List.mem_cons.mp hp).elim (fun z=>⟨.i _ _ _,z▸h⟩) (r p)) (fun l _ p hp=>l p hp) (fun p hp=>absurd hp List.not_mem_nil) (fun _ _ n h r p hp=>(List.mem_append.mp hp).elim (h p) (r p)) (fun p hp=>absurd hp List.not_mem_nil) (fun _ _ n h r p hp=>(List.mem_append.mp hp).elim (h p) (r p)) h
theorem ar.os {vs:List V}{ds:List PyData}(h:ar K C vs ds):bq K H C .cl vs ds []:=
 ar.ind (M:=fun vs ds=>bq K H C .cl vs ds []) .nil (fun h _ ih=>.cons (as:=[]) (.cl h) ih (fun p hp=>absurd hp List.not_mem_nil)) h
theorem bq.ind {t:Ty}{P:List V->List PyData->List Addr->Prop}(h0:P [] [] [])(h1:∀ {v:V} {d:PyData} {vs:List V} {ds:List PyData} {as bs:List Addr},a_ K H C t v d as->bq K H C t vs ds bs->(∀ p∈as,p∉bs)->P vs ds bs->P (v::vs) (d::ds) (as++bs)){vs:List V}{ds:List PyData}{as:List Addr}(h:bq K H C t vs ds as):P vs ds as:=
 bq.rec (motive_1:=fun _ _ _ _ _=>True) (motive_2:=fun t' vs ds as _=>t'=t->P vs ds as) (motive_3:=fun _ _ _ _ _=>True) (fun _=>trivial) trivial (fun _ _ _ _=>trivial) (fun _ _ _=>trivial) (fun _ _=>trivial) (fun _ _ _ _ _ _ _=>trivial) (fun _ _=>trivial) (fun _=>h0) (fun hx r n _ ih e=>by subst e;exact h1 hx r n (ih rfl)) trivial (fun _ _ _ _ _=>trivial) h rfl
theorem bQ.ind {P:List Ty->List V->List PyData->List Addr->Prop}(h0:P [] [] [] [])(h1:∀ {t:Ty} {ts:List Ty} {v:V} {d:PyData} {vs:List V} {ds:List PyData} {as bs:List Addr},a_ K H C t v d as->bQ K H C ts vs ds bs->(∀ p∈as,p∉bs)->P ts vs ds bs->P (t::ts) (v::vs) (d::ds) (as++bs)){ts:List Ty}{vs:List V}{ds:List PyData}{as:List Addr}(h:bQ K H C ts vs ds as):P ts vs ds as:=
 bQ.rec (motive_1:=fun _ _ _ _ _=>True) (motive_2:=fun _ _ _ _ _=>True) (motive_3:=fun ts vs ds as _=>P ts vs ds as) (fun _=>trivial) trivial (fun _ _ _ _=>trivial) (fun _ _ _=>trivial) (fun _ _=>trivial) (fun _ _ _ _ _ _ _=>trivial) (fun _ _=>trivial) trivial (fun _ _ _ _ _=>trivial) h0 (fun h r n _ ih=>h1 h r n ih) h
theorem bq.dl {vs:List V}{ds:List PyData}{as:List Addr}(h:bq K H C .cl vs ds as):ar K C vs ds∧as=[]:=
 bq.rec (motive_1:=fun t v d as _=>t=.cl->az K C v d∧as=[]) (motive_2:=fun t vs ds as _=>t=.cl->ar K C vs ds∧as=[]) (motive_3:=fun _ _ _ _ _=>True) (fun h _=>⟨h,rfl⟩) (fun _=>⟨.non,rfl⟩) (fun _ _ _ _ e=>Ty.noConfusion e) (fun _ _ _ e=>Ty.noConfusion e) (fun _ _ e=>Ty.noConfusion e) (fun _ _ _ _ _ _ _ e=>Ty.noConfusion e) (fun _ _ e=>Ty.noConfusion e) (fun _=>⟨.nil,rfl⟩) (fun _ _ n h r e=>⟨.cons (h e).1 (r e).1,by rw[(h e).2,(r e).2];rfl⟩) trivial (fun _ _ _ _ _=>trivial) h rfl
theorem a_.den {v:V}{d:PyData}{as:List Addr}(h:a_ K H C .cl v d as):az K C v d:=by
 cases h with
 | cl h=>exact h
 | non=>exact .non
theorem bq.length {t:Ty}{vs:List V}{ds:List PyData}{as:List Addr}(h:bq K H C t vs ds as):vs.length=ds.length:=
 bq.rec (motive_1:=fun _ _ _ _ _=>True) (motive_2:=fun _ vs ds _ _=>vs.length=ds.length) (motive_3:=fun _ _ _ _ _=>True) (fun _=>trivial) trivial (fun _ _ _ _=>trivial) (fun _ _ _=>trivial) (fun _ _=>trivial) (fun _ _ _ _ _ _ _=>trivial) (fun _ _=>trivial) rfl (fun _ _ _ _ r=>congrArg (·+1) r) trivial (fun _ _ _ _ _=>trivial) h
theorem bQ.length {ts:List Ty}{vs:List V}{ds:List PyData}{as:List Addr}(h:bQ K H C ts vs ds as):vs.length=ds.length:=
 bQ.rec (motive_1:=fun _ _ _ _ _=>True) (motive_2:=fun _ _ _ _ _=>True) (motive_3:=fun _ vs ds _ _=>vs.length=ds.length) (fun _=>trivial) trivial (fun _ _ _ _=>trivial) (fun _ _ _=>trivial) (fun _ _=>trivial) (fun _ _ _ _ _ _ _=>trivial) (fun _ _=>trivial) trivial (fun _ _ _ _ _=>trivial) rfl (fun _ _ _ _ r=>congrArg (·+1) r) h
theorem bq.item {t:Ty}{vs:List V}{ds:List PyData}{as:List Addr}(h:bq K H C t vs ds as):∀ {j:Nat} {d:PyData},ds[j]?=some d ->
  ∃ v bs,vs[j]?=some v∧a_ K H C t v d bs∧(∀ p∈bs,p∈as)∧∀ (H' C':Hp) (e:PyData),aj C C'->a_ K H' C' t v e bs->(∀ p∈as,p∉bs->∀ o,H p=some o->H' p=some o)->bq K H' C' t vs (ds.set j e) as:=
 bq.ind (P:=fun vs ds as=>∀ {j:Nat} {d:PyData},ds[j]?=some d->∃ v bs,vs[j]?=some v∧a_ K H C t v d bs∧(∀ p∈bs,p∈as)∧∀ (H' C':Hp) (e:PyData),aj C C'->a_ K H' C' t v e bs->(∀ p∈as,p∉bs->∀ o,H p=some o->H' p=some o)->bq K H' C' t vs (ds.set j e) as)
  (fun e=>L2.aQ e) (fun {v d0 vs ds as bs} h r n ih {j d} e=>by
   cases j with
   | zero=>
    obtain rfl:=Option.some.inj e
    exact ⟨v,as,rfl,h,(fun p hp=>List.mem_append_left _ hp),(fun H' C' e c h' k=>.cons h' (r.mono c fun p hp o q=>k p (List.mem_append_right _ hp) (fun z=>n p z hp) o q) n)⟩
   | succ j=>
    obtain⟨w,cs,h1,h2,h3,h4⟩:=ih (j:=j) (d:=d) e
    exact ⟨w,cs,h1,h2,(fun p hp=>List.mem_append_right _ (h3 p hp)),(fun H' C' e c h' k=>.cons (h.mono c fun p hp o q=>k p (List.mem_append_left _ hp) (fun z=>n p hp (h3 p z)) o q) (h4 H' C' e c h' fun p hp hn o q=>k p (List.mem_append_right _ hp) hn o q) n)⟩) h
theorem bQ.item {ts:List Ty}{vs:List V}{ds:List PyData}{as:List Addr}(h:bQ K H C ts vs ds as):∀ {j:Nat} {d:PyData},ds[j]?=some d ->
  ∃ t v bs,ts[j]?=some t∧vs[j]?=some v∧a_ K H C t v d bs∧(∀ p∈bs,p∈as)∧∀ (H' C':Hp) (e:PyData),aj C C'->a_ K H' C' t v e bs->(∀ p∈as,p∉bs->∀ o,H p=some o->H' p=some o)->bQ K H' C' ts vs (ds.set j e) as:=
 bQ.ind (P:=fun ts vs ds as=>∀ {j:Nat} {d:PyData},ds[j]?=some d->∃ t v bs,ts[j]?=some t∧vs[j]?=some v∧a_ K H C t v d bs∧(∀ p∈bs,p∈as)∧∀ (H' C':Hp) (e:PyData),aj C C'->a_ K H' C' t v e bs->(∀ p∈as,p∉bs->∀ o,H p=some o->H' p=some o)->bQ K H' C' ts vs (ds.set j e) as)
  (fun e=>L2.aQ e) (fun {t ts v d0 vs ds as bs} h r n ih {j d} e=>by
   cases j with
   | zero=>
    obtain rfl:=Option.some.inj e
    exact ⟨t,v,as,rfl,rfl,h,(fun p hp=>List.mem_append_left _ hp),(fun H' C' e c h' k=>.cons h' (r.mono c fun p hp o q=>k p (List.mem_append_right _ hp) (fun z=>n p z hp) o q) n)⟩
   | succ j=>
    obtain⟨t',w,cs,h0,h1,h2,h3,h4⟩:=ih (j:=j) (d:=d) e
    exact ⟨t',w,cs,h0,h1,h2,(fun p hp=>List.mem_append_right _ (h3 p hp)),(fun H' C' e c h' k=>.cons (h.mono c fun p hp o q=>k p (List.mem_append_left _ hp) (fun z=>n p hp (h3 p z)) o q) (h4 H' C' e c h' fun p hp hn o q=>k p (List.mem_append_right _ hp) hn o q) n)⟩) h
def ro:PyData->Option (List PyData)
 | .list ds=>some ds
 | _=>none
def D5:PyData->Option (List PyData)
 | .tuple ds=>some ds
 | _=>none
def Ea:PyData->List PyData
 | .list ds=>ds
 | .tuple ds=>ds
 | _=>[]
def kn (ds:List PyData)(k:Int):Option PyData:=(dD ds.length k).bind fun j=>ds[j]?
def kl:PyData->List Int->Option (List PyData)
 | d,[]=>ro d
 | d,k::r=>(kn (Ea d) k).bind fun e=>kl e r
def nK (ds:List PyData)(k:Int)(f:PyData->PyData):List PyData:=(dD ds.length k).elim ds fun j=>ds.set j (f (ds.getD j .none))
def B3 (d:PyData)(k:Int)(f:PyData->PyData):PyData:=match d with
 | .list ds=>.list (nK ds k f)
 | .tuple ds=>.tuple (nK ds k f)
 | d=>d
def IY (d:PyData)(es:List PyData):PyData:=match d with
 | .list _=>.list es
 | d=>d
def il:PyData->List Int->List PyData->PyData
 | d,[],es=>IY d es
 | d,k::r,es=>B3 d k fun e=>il e r es
def Ty.isCl:Ty->Bool
 | .cl=>true
 | _=>false
def Ty.leaf:Ty->Bool
 | .lst t=>t.isCl
 | .io _=>true
 | _=>false
def tL (T:Ty)(d:PyData)(k:Int):Option (Ty×PyData):=match T with
 | .lst t=>(ro d).bind fun ds=>(kn ds k).map fun e=>(t,e)
 | .tup ts=>(D5 d).bind fun ds=>(dD ds.length k).bind fun j=>(ds[j]?).map fun e=>(ts.getD j .cl,e)
 | _=>none
def ir:Ty->PyData->List Int->Bool
 | T,d,[]=>T.leaf&&(ro d).isSome
 | T,d,k::r=>(tL T d k).any fun q=>ir q.1 q.2 r
theorem xA {ds:List PyData}{k:Int}{β:Type}{g:PyData->Option β}{r:β}(h:(kn ds k).bind g=some r):∃ j d,dD ds.length k=some j∧ds[j]?=some d∧g d=some r:=by
 unfold kn at h
 cases hj:dD ds.length k with
 | none=>rw[hj] at h;exact L2.aQ h
 | some j=>
  rw[hj,Option.bind_some] at h
  cases hd:ds[j]? with
  | none=>rw[hd] at h;exact L2.aQ h
  | some d=>rw[hd] at h;exact⟨j,d,rfl,hd,h⟩
theorem Em {ds:List PyData}{k:Int}{j:Nat}{d:PyData}(h1:dD ds.length k=some j)(h2:ds[j]?=some d):kn ds k=some d:=by
 unfold kn
 rw[h1,Option.bind_some,h2]
inductive i8 (K:PySem.W.Frag)(H C:Hp):V->List Int->Addr->Prop
 | here {l:Addr}:i8 K H C (.ref l) [] l
 | inL {a:Addr} {vs:List V} {k:Int} {r:List Int} {w:V} {l:Addr}:H a=some (.lst vs)->atI vs k=some w->i8 K H C w r l->i8 K H C (.ref a) (k::r) l
 | inT {a:Addr} {vs:List V} {k:Int} {r:List Int} {w:V} {l:Addr}:cn K C a vs->atI vs k=some w->i8 K H C w r l->i8 K H C (.ref a) (k::r) l
theorem getD_some {ds:List PyData}{j:Nat}{d:PyData}(h:ds[j]?=some d):ds.getD j .none=d:=by
 rw[List.getD_eq_getElem?_getD,h];rfl
theorem vG {ds:List PyData}{k:Int}{j:Nat}{d:PyData}{f:PyData->PyData}(h1:dD ds.length k=some j)(h2:ds[j]?=some d):nK ds k f=ds.set j (f d):=by
 unfold nK
 rw[h1,Option.elim_some,getD_some h2]
theorem a_.focus (path:List Int):∀ {T:Ty} {v:V} {d:PyData} {as:List Addr} {ds:List PyData},a_ K H C T v d as->ir T d path=true->kl d path=some ds ->
  ∃ l vs,i8 K H C v path l∧H l=some (.lst vs)∧ar K C vs ds∧l∈as∧∀ (H' C':Hp) (ws:List V) (es:List PyData),aj C C'->H' l=some (.lst ws)->(∀ p∈as,p≠l->∀ o,H p=some o->H' p=some o)->ar K C' ws es->a_ K H' C' T v (il d path es) as:=by
 induction path with
 | nil=>
  intro T v d as ds h ht hg
  cases h with
  | cl h=>exact L2.dF ht
  | non=>exact L2.aQ hg
  | tup h r=>exact L2.aQ hg
  | @lst t a vs ds' as h r n=>
   have htc:t=.cl:=by cases t <;> first | rfl | exact L2.dF ht
   subst htc
   obtain rfl:=Option.some.inj hg
   obtain⟨h1,zq1⟩:=r.dl
   subst zq1
   exact ⟨a,vs,.here,h,h1,List.mem_cons_self,(fun H' C' ws es c hw k he=>.lst hw he.os n)⟩
  | @io l vs ds' h q=>
   obtain rfl:=Option.some.inj hg
   exact ⟨l,vs,.here,h,q,List.mem_singleton.mpr rfl,(fun H' C' ws es c hw k he=>.io hw he)⟩
  | rc _ _ _ _ _ _=>exact L2.dF ht
  | nw _ _=>exact L2.dF ht
 | cons k r ih=>
  intro T v d as ds h ht hg
  cases h with
  | cl h=>exact L2.dF ht
  | io h q=>exact L2.dF ht
  | rc _ _ _ _ _ _=>exact L2.dF ht
  | nw _ _=>exact L2.dF ht
  | non=>cases T <;> exact L2.dF ht
  | @lst t a vs ds' as h q n=>
   obtain⟨j,d',hj,hd,hg⟩:=xA (ds:=ds') hg
   have ht':ir t d' r=true:=by
    have e:tL (.lst t) (.list ds') k=some (t,d'):=congrArg (Option.map fun e=>(t,e)) (Em hj hd)
    rw[ir,e] at ht
    exact ht
   obtain⟨w,bs,h1,h2,h3,h4⟩:=q.item hd
   obtain⟨l,us,g1,g2,g3,g4,g5⟩:=ih h2 ht' hg
   have hat:atI vs k=some w:=by
    unfold atI
    rw[q.length,hj]
    exact h1
   refine ⟨l,us,.inL h hat g1,g2,g3,List.mem_cons_of_mem _ (h3 l g4),(fun H' C' ws es c hw kk he=>?_)⟩
   have hal:a≠l:=fun z=>n (z▸h3 l g4)
   rw[show il (.list ds') (k::r) es=.list (ds'.set j (il d' r es)) from congrArg PyData.list (vG hj hd)]
   exact .lst (kk a List.mem_cons_self hal _ h) (h4 H' C' _ c (g5 H' C' ws es c hw (fun p hp hne o qq=>kk p (List.mem_cons_of_mem _ (h3 p hp)) hne o qq) he) fun p hp hn o qq=>kk p (List.mem_cons_of_mem _ hp) (fun z=>hn (z▸g4)) o qq) n
  | @tup ts a vs ds' as h q=>
   obtain⟨j,d',hj,hd,hg⟩:=xA (ds:=ds') hg
   obtain⟨t,w,bs,h0,h1,h2,h3,h4⟩:=q.item hd
   have ht':ir t d' r=true:=by
    have e:tL (.tup ts) (.tuple ds') k=some (t,d'):=by
     show ((dD ds'.length k).bind fun j=>(ds'[j]?).map fun e=>(ts.getD j .cl,e))=_
     rw[hj,Option.bind_some,hd,List.getD_eq_getElem?_getD,h0]
     rfl
    rw[ir,e] at ht
    exact ht
   obtain⟨l,us,g1,g2,g3,g4,g5⟩:=ih h2 ht' hg
   have hat:atI vs k=some w:=by
    unfold atI
    rw[q.length,hj]
    exact h1
   refine ⟨l,us,.inT h hat g1,g2,g3,h3 l g4,(fun H' C' ws es c hw kk he=>?_)⟩
   rw[show il (.tuple ds') (k::r) es=.tuple (ds'.set j (il d' r es)) from congrArg PyData.tuple (vG hj hd)]
   exact .tup (c.tup h) (h4 H' C' _ c (g5 H' C' ws es c hw (fun p hp hne o qq=>kk p (h3 p hp) hne o qq) he) fun p hp hn o qq=>kk p hp (fun z=>hn (z▸g4)) o qq)
end
structure Ow where
 s:List (Nat×Ty)
 r:Ty:=.cl
def j4 (K:PySem.W.Frag)(O:Ow)(hid:Addr->Prop)(σ:St)(H:Hp)(ρ:aa)(ow:List Addr)(A:Nat->List Addr):Prop:=
 (∀ i t d,O.s.lookup i=some t->ρ[i]?=some (some d)->∃ v,σ[i]?=some (some v)∧a_ K H (ah H (uni hid ow)) t v d (A i))∧(∀ i j p,i≠j->p∈A i->p∉A j)∧(∀ i p,p∈A i->p∈ow)
structure aE (K:PySem.W.Frag)(O:Ow)(hid:Addr->Prop)(H0:Hp)(σ:St)(H:Hp)(ρ:aa)(ow:List Addr):Prop where
 len:ρ.length=σ.length
 base:aj H0 (ah H fun b=>b∈ow)
 val:∀ i d,O.s.lookup i=none->ρ[i]?=some (some d)->∃ v,σ[i]?=some (some v)∧az K (ah H (uni hid ow)) v d
 own:∃ A,j4 K O hid σ H ρ ow A
 isl:∀ l∈ow,(∃ vs:bP,H l=some vs.ho)∧¬ hid l
 ishL:∀ b,hid b->∃ vs:bP,H b=some vs.ho
 emp:O.s=[]->ow=[]
section
variable {K:PySem.W.Frag}{O:Ow}{hid:Addr->Prop}{H0 H H':Hp}{σ:St}{ρ:aa}{ow:List Addr}{A:Nat->List Addr}
theorem j4.mono (a:j4 K O hid σ H ρ ow A)(h:aj H H'):j4 K O hid σ H' ρ ow A:=
 ⟨fun i t d hi hd=>let ⟨v,q,r⟩:=a.1 i t d hi hd;⟨v,q,r.mono (aY h _) fun p _ o e=>h p o e⟩,a.2⟩
theorem aE.mono (e:aE K O hid H0 σ H ρ ow)(h:aj H H'):aE K O hid H0 σ H' ρ ow:=
 ⟨e.len,e.base.trans (aY h _),fun i d hi hd=>let ⟨v,a,b⟩:=e.val i d hi hd;⟨v,a,b.mono (aY h _)⟩,
  let ⟨A,a⟩:=e.own;⟨A,a.mono h⟩,fun l hl=>let ⟨⟨vs,q⟩,n⟩:=e.isl l hl;⟨⟨vs,h _ _ q⟩,n⟩,
  fun b hb=>let ⟨vs,q⟩:=e.ishL b hb;⟨vs,h _ _ q⟩,e.emp⟩
theorem aE.ish (e:aE K O hid H0 σ H ρ ow):∀ b,hid b->H b≠none:=fun b hb z=>by
 obtain⟨vs,q⟩:=e.ishL b hb
 rw[z] at q;cases q
theorem aE.uniL (e:aE K O hid H0 σ H ρ ow):∀ b,uni hid ow b->∃ vs:bP,H b=some vs.ho:=fun b hb=>by
 rcases hb with hb | hb
 ·exact e.ishL b hb
 ·exact (e.isl b hb).1
theorem aE.fresh (e:aE K O hid H0 σ H ρ ow){p:Addr}(h:H p=none):¬ uni hid ow p:=by
 rintro (z | z)
 ·exact e.ish p z h
 ·obtain⟨⟨vs,q⟩,_⟩:=e.isl p z
  rw[h] at q;cases q
theorem aE.lists (e:aE K O hid H0 σ H ρ ow):∀ l∈ow,∃ vs:bP,H l=some vs.ho:=fun l h=>(e.isl l h).1
theorem aE.ow0 (e:aE K O hid H0 σ H ρ ow){p:Addr}(h:p∈ow):H0 p=none:=by
 cases q:H0 p with
 | none=>rfl
 | some o=>
  have:=e.base p o q
  rw[de h] at this
  exact L2.aQ this
theorem aE.raw (e:aE K O hid H0 σ H ρ ow){i:Nat}{d:PyData}(h:ρ[i]?=some (some d)):∃ v,σ[i]?=some (some v)∧az K (ah H hid) v d:=by
 cases hi:O.s.lookup i with
 | some t=>
  obtain⟨A,a1,a2,a3⟩:=e.own
  obtain⟨v,q,r⟩:=a1 i t d hi h
  exact⟨v,q,r.raw (fq _ _ _) fun p hp o q=>by rw[bb (e.isl p (a3 i p hp)).2];exact q⟩
 | none=>
  obtain⟨v,a,b⟩:=e.val i d hi h
  exact⟨v,a,b.mono (fq _ _ _)⟩
theorem aE.newAt (e:aE K O hid H0 σ H ρ ow){p:Addr}{o:HO}(h:H p=none):ah (upd H p o) (uni hid ow) p=some o:=by rw[bb (e.fresh h),bC]
theorem aE.newAtR (e:aE K O hid H0 σ H ρ ow){p:Addr}{o:HO}(h:H p=none):ah (upd H p o) hid p=some o:=by rw[bb fun z=>e.fresh h (.inl z),bC]
theorem o6 {ρ:aa}{i j:Nat}{d:PyData}{x:Option PyData}(q:(ρ.set i (some d))[j]?=some x):(j=i∧x=some d∧i<ρ.length)∨(j≠i∧ρ[j]?=some x):=by
 by_cases hj:j=i
 ·subst hj
  have hl:j<ρ.length:=by have:=(List.getElem?_eq_some_iff.mp q).1;simpa using this
  rw[List.getElem?_set_self hl] at q
  exact .inl ⟨rfl,(Option.some.inj q).symm,hl⟩
 ·rw[List.getElem?_set_ne (Ne.symm hj)] at q
  exact .inr ⟨hj,q⟩
theorem aE.set (e:aE K O hid H0 σ H ρ ow){i:Nat}{v:V}{d:PyData}(hi:O.s.lookup i=none)(h:az K (ah H (uni hid ow)) v d):aE K O hid H0 (σ.set i (some v)) H (ρ.set i (some d)) ow:=by
 refine⟨by simpa using e.len,e.base,fun j x hj q=>?_,?_,e.isl,e.ishL,e.emp⟩
 ·rcases o6 q with ⟨rfl,z,hl⟩ | ⟨hne,z⟩
  ·obtain rfl:=Option.some.inj z
   exact⟨v,List.getElem?_set_self (by rw[← e.len];exact hl),h⟩
  ·obtain⟨w,a,b⟩:=e.val j x hj z
   exact⟨w,by rw[List.getElem?_set_ne (Ne.symm hne)];exact a,b⟩
 ·obtain⟨A,a1,a2,a3⟩:=e.own
  refine⟨A,fun j t x hj q=>?_,a2,a3⟩
  have hne:j≠i:=fun z=>by rw[z,hi] at hj;cases hj
  rw[List.getElem?_set_ne (Ne.symm hne)] at q
  obtain⟨w,a,b⟩:=a1 j t x hj q
  exact⟨w,by rw[List.getElem?_set_ne (Ne.symm hne)];exact a,b⟩
theorem aE.setT (e:aE K O hid H0 σ H ρ ow)(s:aj H H'){i:Nat}{t:Ty}{v:V}{d:PyData}{as:List Addr}(hi:O.s.lookup i=some t)(hl:∀ p∈as,H p=none)(h:a_ K H' (ah H' (uni hid (as++ow))) t v d as) :
  aE K O hid H0 (σ.set i (some v)) H' (ρ.set i (some d)) (as++ow):=by
 have nl:∀ p∈as,¬ uni hid ow p:=fun p hp=>e.fresh (hl p hp)
 have gen:∀ P Q:Addr->Prop,(∀ b,Q b->P b∨b∈as)->aj (ah H P) (ah H' Q):=fun P Q hq b u z=>by
  by_cases hb:P b
  ·rw[de hb] at z;cases z
  ·rw[bb hb] at z
   rw[bb fun y=>?_]
   ·exact s b u z
   ·rcases hq b y with y | y
    ·exact hb y
    ·rw[hl b y] at z;cases z
 have sub:aj (ah H (uni hid ow)) (ah H' (uni hid (as++ow))):=gen _ _ fun b z=>by
  rcases z with z | z
  ·exact .inl (.inl z)
  ·rcases List.mem_append.mp z with z | z
   ·exact .inr z
   ·exact .inl (.inr z)
 have subO:aj (ah H fun b=>b∈ow) (ah H' fun b=>b∈as++ow):=gen _ _ fun b z=>by
  rcases List.mem_append.mp z with z | z
  ·exact .inr z
  ·exact .inl z
 refine⟨by simpa using e.len,e.base.trans subO,fun j x hj q=>?_,?_,fun l2 h2=>?_,fun b hb=>let ⟨vs,q⟩:=e.ishL b hb;⟨vs,s _ _ q⟩,fun z=>by rw[z] at hi;cases hi⟩
 ·have hne:j≠i:=fun z=>by rw[z,hi] at hj;cases hj
  rw[List.getElem?_set_ne (Ne.symm hne)] at q
  obtain⟨w,a,b⟩:=e.val j x hj q
  exact⟨w,by rw[List.getElem?_set_ne (Ne.symm hne)];exact a,b.mono sub⟩
 ·obtain⟨A,a1,a2,a3⟩:=e.own
  refine⟨fun j=>if j=i then as else A j,fun j t' x hj q=>?_,fun j k p hjk hp hk=>?_,fun j p hp=>?_⟩
  ·rcases o6 q with ⟨rfl,z,hz⟩ | ⟨hne,z⟩
   ·obtain rfl:=Option.some.inj z
    rw[hi] at hj
    obtain rfl:=Option.some.inj hj
    exact⟨v,List.getElem?_set_self (by rw[← e.len];exact hz),by dsimp only;rw[if_pos rfl];exact h⟩
   ·obtain⟨w,a,b⟩:=a1 j t' x hj z
    refine⟨w,by rw[List.getElem?_set_ne (Ne.symm hne)];exact a,?_⟩
    dsimp only
    rw[if_neg hne]
    exact b.mono sub fun p _ o q=>s p o q
  ·dsimp only at hp hk
   split at hp
   ·split at hk
    ·subst_vars;exact hjk rfl
    ·exact nl p hp (.inr (a3 k p hk))
   ·split at hk
    ·exact nl p hk (.inr (a3 j p hp))
    ·exact a2 j k p hjk hp hk
  ·dsimp only at hp
   split at hp
   ·exact List.mem_append_left _ hp
   ·exact List.mem_append_right _ (a3 j p hp)
 ·rcases List.mem_append.mp h2 with h2 | h2
  ·exact⟨h.lists l2 h2,fun z=>nl l2 h2 (.inl z)⟩
  ·obtain⟨⟨ws,q⟩,n⟩:=e.isl l2 h2
   exact⟨⟨ws,s _ _ q⟩,n⟩
theorem aE.at0 (e:aE K O hid H0 σ H ρ ow){i:Nat}{ds:List PyData}(hi:O.s.lookup i=some (.lst .cl))(hρ:ρ[i]?=some (some (.list ds))) :
  ∃ l vs,σ[i]?=some (some (.ref l))∧H l=some (.lst vs)∧ar K (ah H (uni hid ow)) vs ds∧l∈ow ∧
   ∀ H',aj H H'->∀ ws es,ar K (ah H' (uni hid ow)) ws es->aE K O hid H0 σ (upd H' l (.lst ws)) (ρ.set i (some (.list es))) ow:=by
 obtain⟨A,a1,a2,a3⟩:=e.own
 obtain⟨v,hv,D⟩:=a1 i _ _ hi hρ
 generalize hA:A i=Ai at D
 cases D with
 | @lst _ l vs _ as q r n=>
  obtain⟨dl,zq1⟩:=r.dl
  subst zq1
  have hA':l∈A i:=by rw[hA];exact List.mem_singleton.mpr rfl
  have hl:=a3 i l hA'
  refine ⟨l,vs,hv,q,dl,hl,(fun H' s ws es he=>?_)⟩
  have e':=e.mono s
  have ed:ah (upd H' l (.lst ws)) (uni hid ow)=ah H' (uni hid ow):=iQ (pd hl)
  have eo:ah (upd H' l (.lst ws)) (fun b=>b∈ow)=ah H' (fun b=>b∈ow):=iQ hl
  refine⟨by simpa using e.len,by rw[eo];exact e'.base,fun j x hj q=>?_,⟨A,fun j t' x hj q=>?_,a2,a3⟩,fun l2 h2=>?_,fun b hb=>?_,e.emp⟩
  ·have hne:j≠i:=fun z=>by rw[z,hi] at hj;cases hj
   rw[List.getElem?_set_ne (Ne.symm hne)] at q
   rw[ed]
   exact e'.val j x hj q
  ·rw[ed]
   rcases o6 q with ⟨rfl,z,hz⟩ | ⟨hne,z⟩
   ·obtain rfl:=Option.some.inj z
    rw[hi] at hj
    obtain rfl:=Option.some.inj hj
    refine⟨.ref l,hv,?_⟩
    rw[hA]
    exact .lst bC he.os (by simp)
   ·obtain⟨w,a,b⟩:=a1 j t' x hj z
    exact⟨w,a,b.mono (aY s _) fun p hp o q=>by rw[aD (show p≠l from fun y=>a2 j i p hne hp (by rw[y];exact hA'))];exact s _ _ q⟩
  ·obtain⟨⟨vs2,q⟩,n⟩:=e'.isl l2 h2
   refine⟨?_,n⟩
   by_cases hne:l2=l
   ·subst hne;exact⟨.l ws,bC⟩
   ·exact⟨vs2,by rw[aD hne];exact q⟩
  ·have hne:b≠l:=fun z2=>(e.isl l hl).2 (z2▸hb)
   rw[aD hne]
   exact e'.ishL b hb
theorem Dj {d:PyData}{ds:List PyData}(h:kl d []=some ds):d=.list ds:=by
 cases d <;> first | (cases h;rfl) | cases h
theorem aE.at (e:aE K O hid H0 σ H ρ ow){i:Nat}{t:Ty}{d:PyData}{path:List Int}{ds:List PyData}(hi:O.s.lookup i=some t)(hρ:ρ[i]?=some (some d))(ht:ir t d path=true)(hg:kl d path=some ds) :
  ∃ v l vs,σ[i]?=some (some v)∧i8 K H (ah H (uni hid ow)) v path l∧H l=some (.lst vs)∧ar K (ah H (uni hid ow)) vs ds∧l∈ow ∧
   ∀ H',aj H H'->∀ ws es,ar K (ah H' (uni hid ow)) ws es->aE K O hid H0 σ (upd H' l (.lst ws)) (ρ.set i (some (il d path es))) ow:=by
 obtain⟨A,a1,a2,a3⟩:=e.own
 obtain⟨v,hv,D⟩:=a1 i t d hi hρ
 obtain⟨l,vs,g1,g2,g3,g4,g5⟩:=D.focus path ht hg
 have hl:=a3 i l g4
 refine ⟨v,l,vs,hv,g1,g2,g3,hl,(fun H' s ws es he=>?_)⟩
 have e':=e.mono s
 have ed:ah (upd H' l (.lst ws)) (uni hid ow)=ah H' (uni hid ow):=iQ (pd hl)
 have eo:ah (upd H' l (.lst ws)) (fun b=>b∈ow)=ah H' (fun b=>b∈ow):=iQ hl
 have hil:i<ρ.length:=(List.getElem?_eq_some_iff.mp hρ).1
 refine⟨by simpa using e.len,by rw[eo];exact e'.base,fun j x hj q=>?_,⟨A,fun j t' x hj q=>?_,a2,a3⟩,fun l2 h2=>?_,fun b hb=>?_,e.emp⟩
 ·have hne:j≠i:=fun z=>by rw[z,hi] at hj;cases hj
  rw[List.getElem?_set_ne (Ne.symm hne)] at q
  rw[ed]
  exact e'.val j x hj q
 ·rw[ed]
  rcases o6 q with ⟨rfl,z,hz⟩ | ⟨hne,z⟩
  ·obtain rfl:=Option.some.inj z
   rw[hi] at hj
   obtain rfl:=Option.some.inj hj
   exact⟨v,hv,g5 _ _ ws es (aY s _) bC (fun p _ hne o q=>by rw[aD hne];exact s _ _ q) he⟩
  ·obtain⟨w,a,b⟩:=a1 j t' x hj z
   exact⟨w,a,b.mono (aY s _) fun p hp o q=>by rw[aD (show p≠l from fun y=>a2 j i p hne hp (by rw[y];exact g4))];exact s _ _ q⟩
 ·obtain⟨⟨vs2,q⟩,n⟩:=e'.isl l2 h2
  refine⟨?_,n⟩
  by_cases hne:l2=l
  ·subst hne;exact⟨.l ws,bC⟩
  ·exact⟨vs2,by rw[aD hne];exact q⟩
 ·have hne:b≠l:=fun z2=>(e.isl l hl).2 (z2▸hb)
  rw[aD hne]
  exact e'.ishL b hb
end
end L2
namespace L2
variable [Reg]
inductive dk {α:Type}(K:PySem.W.Frag)(O:Ow)(f:aa->Option α)(σ:St)(H:Hp)(R:(Addr->Prop)->Hp->aa->List Addr->α->Prop):Prop
 | mk (hid:Addr->Prop) (H0:Hp) (ρ:aa) (ow:List Addr) (d:α) (E:aE K O hid H0 σ H ρ ow) (hf:f ρ=some d) (k:R hid H0 ρ ow d):dk K O f σ H R
section
variable (K:PySem.W.Frag)(O:Ow)
def tR (f:aa->Option PyData):TE:=fun σ H Q=>dk K O f σ H fun hid H0 ρ ow d=>∀ v H',aj H H'->az K (ah H' hid) v d->Q v H'
def tV (f:aa->Option PyData):TE:=fun σ H Q=>dk K O f σ H fun hid H0 ρ ow d=>∀ v H',aj H H'->az K (ah H' (uni hid ow)) v d->Q v H'
def tD (f:aa->Option (List PyData)):TE:=fun σ H Q=>dk K O f σ H fun hid H0 ρ ow ds=>∀ l vs H',aj H H'->H l=none->H' l=some (.lst vs)->ar K (ah H' (uni hid [l])) vs ds->Q (.ref l) H'
def JB (f:aa->Option (List PyData)):TE:=fun σ H Q=>dk K O f σ H fun hid H0 ρ ow ds=>∀ l vs H',aj H H'->H l=none->H' l=some (.lst vs)->ar K (ah H' (uni hid (l::ow))) vs ds->Q (.ref l) H'
def tT (f:aa->Option Bool):TT:=fun σ H Q=>dk K O f σ H fun hid H0 ρ ow b=>∀ H',aj H H'->Q b H'
def Js (f:aa->Option (List PyData)):TA:=fun σ H Q=>dk K O f σ H fun hid H0 ρ ow ds=>∀ vs H',aj H H'->ar K (ah H' hid) vs ds->Q vs H'
def Jt (f:aa->Option (List PyData)):TA:=fun σ H Q=>dk K O f σ H fun hid H0 ρ ow ds=>∀ vs H',aj H H'->ar K (ah H' (uni hid ow)) vs ds->Q vs H'
end
abbrev PR (X:Cx)(O:Ow)(e:Expr)(f:aa->Option PyData):Prop:=PE X e (tR X.K O f)
abbrev PV (X:Cx)(O:Ow)(e:Expr)(f:aa->Option PyData):Prop:=PE X e (tV X.K O f)
abbrev aP (X:Cx)(O:Ow)(e:Expr)(f:aa->Option (List PyData)):Prop:=PE X e (tD X.K O f)
abbrev bL (X:Cx)(O:Ow)(e:Expr)(f:aa->Option (List PyData)):Prop:=PE X e (JB X.K O f)
abbrev eG (X:Cx)(O:Ow)(e:Expr)(f:aa->Option Bool):Prop:=PT X e (tT X.K O f)
abbrev jl (X:Cx)(O:Ow)(e:Expr)(f:aa->Option Bool):Prop:=PW X e (tT X.K O f)
abbrev fj (X:Cx)(O:Ow)(es:List Expr)(f:aa->Option (List PyData)):Prop:=PA X es (Js X.K O f)
abbrev gP (X:Cx)(O:Ow)(es:List Expr)(f:aa->Option (List PyData)):Prop:=PA X es (Jt X.K O f)
theorem PE.imp {X:Cx}{e:Expr}{t t':TE}(h:PE X e t)(hi:∀ σ H Q,t' σ H Q->t σ H Q):PE X e t':=fun pins s σ H Q I q=>h pins s σ H Q I (hi σ H Q q)
theorem PT.imp {X:Cx}{e:Expr}{t t':TT}(h:PT X e t)(hi:∀ σ H Q,t' σ H Q->t σ H Q):PT X e t':=fun pins s σ H Q I q=>h pins s σ H Q I (hi σ H Q q)
theorem PW.imp {X:Cx}{e:Expr}{t t':TT}(h:PW X e t)(hi:∀ σ H Q,t' σ H Q->t σ H Q):PW X e t':=fun wh pins s σ H Q I q=>h wh pins s σ H Q I (hi σ H Q q)
theorem PA.imp {X:Cx}{es:List Expr}{t t':TA}(h:PA X es t)(hi:∀ σ H Q,t' σ H Q->t σ H Q):PA X es t':=fun pos pins s σ H Q I q=>h pos pins s σ H Q I (hi σ H Q q)
theorem PS.imp {X:Cx}{st:Stmt}{t t':TS}(h:PS X st t)(hi:∀ D σ H,t' D σ H->t D σ H):PS X st t':=fun pins s σ H D I q=>h pins s σ H D I (hi D σ H q)
theorem cT.imp {X:Cx}{st:List Stmt}{t t':TS}(h:cT X st t)(hi:∀ D σ H,t' D σ H->t D σ H):cT X st t':=fun pins s σ H D I q=>h pins s σ H D I (hi D σ H q)
theorem PG.imp {X:Cx}{tg:Expr}{t t':TG}(h:PG X tg t)(hi:∀ v σ H Q,t' v σ H Q->t v σ H Q):PG X tg t':=fun pins s σ H v u Q I r q=>h pins s σ H v u Q I r (hi v σ H Q q)
theorem gQ.imp {X:Cx}{tg:List Expr}{t t':fP}(h:gQ X tg t)(hi:∀ v σ H Q,t' v σ H Q->t v σ H Q):gQ X tg t':=fun pins s σ H v u Q I r q=>h pins s σ H v u Q I r (hi v σ H Q q)
theorem PI.imp {X:Cx}{tg iter:Expr}{t t':TI}(h:PI X tg iter t)(hi:∀ σ H R,t' σ H R->t σ H R):PI X tg iter t':=fun pins s σ H R I q=>h pins s σ H R I (hi σ H R q)
def jq:PyData->Option Bool
 | .bool b=>some b
 | _=>none
def br:PyData->Option (List PyData)
 | .list ds=>some ds
 | _=>none
def J3:PyData->Option (List PyData)
 | .tuple ds=>some ds
 | _=>none
def ae (a b:Option PyData)(g:PyData->PyData->Option PyData):Option PyData:=a.bind fun x=>b.bind fun y=>g x y
inductive ua (a b:Option PyData)(g:PyData->PyData->Option PyData)(r:PyData):Prop
 | mk (x y:PyData) (h1:a=some x) (h2:b=some y) (h3:g x y=some r):ua a b g r
inductive t_ {α β:Type}(a:Option α)(g:α->Option β)(r:β):Prop
 | mk (x:α) (h1:a=some x) (h2:g x=some r):t_ a g r
inductive uC {α β:Type}(a:Option α)(g:α->β)(r:β):Prop
 | mk (x:α) (h1:a=some x) (h2:g x=r):uC a g r
theorem qM {a b:Option PyData}{g:PyData->PyData->Option PyData}{r:PyData}(h:ae a b g=some r):ua a b g r:=by
 unfold ae at h
 cases a with
 | none=>exact L2.aQ h
 | some x=>
  cases b with
  | none=>exact L2.aQ h
  | some y=>exact⟨x,y,rfl,rfl,h⟩
def af (x:Option PyData)(r:Option (List PyData)):Option (List PyData):=x.bind fun d=>r.map (d::·)
def aw (x:Option PyData):Option Bool:=x.bind jq
def aA {α:Type}(c:Option Bool)(a b:Option α):Option α:=c.bind fun k=>if k=true then a else b
def cU (x y:Option Bool):Option Bool:=x.bind fun c=>if c=true then y else some false
def dr (x y:Option Bool):Option Bool:=x.bind fun c=>if c=true then some true else y
def gu (x y:Option PyData):Option PyData:=(x.bind jq).bind fun c=>if c=true then y else some (.bool false)
def gD (x y:Option PyData):Option PyData:=(x.bind jq).bind fun c=>if c=true then some (.bool true) else y
def Fg (x:Option PyData):Option PyData:=(x.bind jq).map fun c=>.bool (!c)
theorem bind_some {α β:Type}{a:Option α}{g:α->Option β}{r:β}(h:a.bind g=some r):t_ a g r:=by
 cases a with
 | none=>exact L2.aQ h
 | some x=>exact⟨x,rfl,h⟩
theorem map_some {α β:Type}{a:Option α}{g:α->β}{r:β}(h:a.map g=some r):uC a g r:=by
 cases a with
 | none=>exact L2.aQ h
 | some x=>exact⟨x,rfl,Option.some.inj h⟩
section
variable {X:Cx}{O:Ow}{e a b c:Expr}{f fa fb fc:aa->Option PyData}{pos:Pos}
theorem PV.r (h:PV X O e f):PR X O e f:=h.imp fun σ H Q ⟨hid,H0,ρ,ow,d,E,hf,k⟩=>⟨hid,H0,ρ,ow,d,E,hf,fun v H' s D=>k v H' s (D.mono (fq _ _ _))⟩
theorem PR.cl0 (h:PR X O e f)(h0:O.s=[]:=by rfl):PV X O e f:=h.imp fun σ H Q ⟨hid,H0,ρ,ow,d,E,hf,k⟩=>⟨hid,H0,ρ,ow,d,E,hf,fun v H' s D=>k v H' s (by rw[E.emp h0,gF];exact D)⟩
theorem PR.clf (h:PR X O e f):PV X O e (fun ρ=>(f ρ).filter lf):=h.imp fun σ H Q zpat=>by
 obtain⟨hid,H0,ρ,ow,d,E,hf,k⟩:=zpat
 obtain⟨h1,h2⟩:=Option.filter_eq_some_iff.mp hf
 exact⟨hid,H0,ρ,ow,d,E,h1,fun v H' s D=>k v H' s (D.clean (E.mono s).lists h2)⟩
theorem aP.r {f:aa->Option (List PyData)}(h:aP X O e f):PR X O e (fun ρ=>(f ρ).map .list):=h.imp fun σ H Q zpat=>by
 obtain⟨hid,H0,ρ,ow,d,E,hf,k⟩:=zpat
 obtain⟨ds,h1,rfl⟩:=map_some hf
 exact⟨hid,H0,ρ,ow,ds,E,h1,fun l vs H' s n q D=>k (.ref l) H' s (.lst (aN.of (by rw[bb fun z=>E.fresh n (.inl z)];exact q)) (D.mono (fq _ _ _)))⟩
theorem bL.fr {f:aa->Option (List PyData)}(h:bL X O e f):aP X O e f:=h.imp fun σ H Q ⟨hid,H0,ρ,ow,d,E,hf,k⟩=>⟨hid,H0,ρ,ow,d,E,hf,fun l vs H' s n q D=>k l vs H' s n q (D.mono (fR fun b z=>by rcases z with z | z;exact .inl z;exact .inr (by simp at z;simp[z])))⟩
theorem bL.v {f:aa->Option (List PyData)}(h:bL X O e f):PV X O e (fun ρ=>(f ρ).map .list):=h.imp fun σ H Q zpat=>by
 obtain⟨hid,H0,ρ,ow,d,E,hf,k⟩:=zpat
 obtain⟨ds,h1,rfl⟩:=map_some hf
 refine⟨hid,H0,ρ,ow,ds,E,h1,fun l vs H' s n q D=>k (.ref l) H' s (.lst (aN.of ?_) (D.mono (fR fun b z=>by rcases z with z | z;exact .inl z;exact .inr (List.mem_cons_of_mem _ z))))⟩
 rw[bb (E.fresh n)]
 exact q
theorem aP.cf {f:aa->Option (List PyData)}(h:aP X O e f):bL X O e (fun ρ=>(f ρ).filter lf.go):=h.imp fun σ H Q zpat=>by
 obtain⟨hid,H0,ρ,ow,d,E,hf,k⟩:=zpat
 obtain⟨h1,h2⟩:=Option.filter_eq_some_iff.mp hf
 refine⟨hid,H0,ρ,ow,d,E,h1,fun l vs H' s n q D=>k l vs H' s n q ((D.mono (fq _ _ _)).clean (fun l2 h2=>?_) h2)⟩
 rcases List.mem_cons.mp h2 with rfl | h2
 ·exact⟨.l vs,q⟩
 ·exact (E.mono s).lists l2 h2
theorem aP.cz {f:aa->Option (List PyData)}(h:aP X O e f)(h0:O.s=[]:=by rfl):bL X O e f:=h.imp fun σ H Q ⟨hid,H0,ρ,ow,d,E,hf,k⟩=>⟨hid,H0,ρ,ow,d,E,hf,fun l vs H' s n q D=>k l vs H' s n q (by rw[E.emp h0];exact D)⟩
theorem join_some {ρ:aa}{i:Nat}{d:PyData}(h:(ρ[i]?).join=some d):ρ[i]?=some (some d):=by
 cases q:ρ[i]? with
 | none=>rw[q] at h;cases h
 | some x=>rw[q] at h;exact congrArg some h
theorem ij {i:Nat}(h:PE X e (fG i)):PR X O e (fun ρ=>(ρ[i]?).join):=h.imp fun σ H Q zpat=>by
 obtain⟨hid,H0,ρ,ow,d,E,hf,k⟩:=zpat
 obtain⟨v,h1,h2⟩:=E.raw (join_some hf)
 exact⟨v,h1,k v H (aj.refl H) h2⟩
theorem y6 {i:Nat}(h:PE X e (fG i))(hi:O.s.lookup i=none:=by rfl):PV X O e (fun ρ=>(ρ[i]?).join):=h.imp fun σ H Q zpat=>by
 obtain⟨hid,H0,ρ,ow,d,E,hf,k⟩:=zpat
 obtain⟨v,h1,h2⟩:=E.val i d hi (join_some hf)
 exact⟨v,h1,k v H (aj.refl H) h2⟩
theorem oD {v:V}{d:PyData}(h:PE X e (tC v))(s:Sc v d):PV X O e (fun _=>some d):=h.imp fun σ H Q zpat=>by
 obtain⟨hid,H0,ρ,ow,d',E,hf,k⟩:=zpat
 obtain rfl:=Option.some.inj hf
 exact k v H (aj.refl H) s.den
theorem i4 {i:Int}{j:Nat}:PV X O (.Constant (.int i) j pos) (fun _=>some (.int i)):=oD Gx (.int i)
theorem kB {i:Bool}{j:Nat}:PV X O (.Constant (.bool i) j pos) (fun _=>some (.bool i)):=oD Gv (.bl i)
theorem y8 {j:Nat}:PV X O (.Constant .none j pos) (fun _=>some .none):=oD yL .non
theorem cH {x:Str}{j:Nat}:PV X O (.Constant (.str x) j pos) (fun _=>some (.str x)):=oD l7 (.str x)
def j6 (K:PySem.W.Frag)(rd:R2)(g:PyData->PyData->Option PyData):Prop:=∀ x y H d e r Q,az K H x d->az K H y e->g d e=some r->(∀ v,Sc v r->Q v H)->rd x y H Q
def uT (K:PySem.W.Frag)(rd:R2)(g:PyData->PyData->Option PyData):Prop:=∀ x y H G d e r Q,aj G H->az K G x d->az K G y e->g d e=some r->(∀ v,az K G v r->Q v H)->rd x y H Q
theorem iq {K:PySem.W.Frag}{rd:R2}{g:PyData->PyData->Option PyData}(hg:j6 K rd g):∀ σ H Q,tV K O (fun ρ=>ae (fa ρ) (fb ρ) g) σ H Q->kM rd (tR K O fa) (tR K O fb) σ H Q:=fun σ H Q zpat=>by
 obtain⟨hid,H0,ρ,ow,r,E,hf,k⟩:=zpat
 obtain⟨d,e,h1,h2,h3⟩:=qM hf
 exact⟨hid,H0,ρ,ow,d,E,h1,fun x H1 s1 D1=>⟨hid,H0,ρ,ow,e,E.mono s1,h2,fun y H2 s2 D2=>hg x y H2 d e r Q ((D1.mono (aY s2 _)).mono (bA _ _)) (D2.mono (bA _ _)) h3 fun v S=>k v H2 (s1.trans s2) S.den⟩⟩
theorem JM {K:PySem.W.Frag}{rd:R2}{g:PyData->PyData->Option PyData}(hg:uT K rd g):∀ σ H Q,tR K O (fun ρ=>ae (fa ρ) (fb ρ) g) σ H Q->kM rd (tR K O fa) (tR K O fb) σ H Q:=fun σ H Q zpat=>by
 obtain⟨hid,H0,ρ,ow,r,E,hf,k⟩:=zpat
 obtain⟨d,e,h1,h2,h3⟩:=qM hf
 exact⟨hid,H0,ρ,ow,d,E,h1,fun x H1 s1 D1=>⟨hid,H0,ρ,ow,e,E.mono s1,h2,fun y H2 s2 D2=>hg x y H2 _ d e r Q (bA _ hid) (D1.mono (aY s2 _)) D2 h3 fun v S=>k v H2 (s1.trans s2) S⟩⟩
def dh:PyData->Option Int
 | .int i=>some i
 | _=>none
theorem h_ {d:PyData}{i:Int}(h:dh d=some i):d=.int i:=by
 cases d with
 | int j=>rw[Option.some.inj h]
 | _=>exact L2.aQ h
def o4:PyData->Option (List PyData)
 | .list ds=>some ds
 | .tuple ds=>some ds
 | _=>none
theorem zx {d:PyData}{ds:List PyData}(h:o4 d=some ds):d=.list ds∨d=.tuple ds:=by
 cases d with
 | list es=>exact .inl (by rw[Option.some.inj h])
 | tuple es=>exact .inr (by rw[Option.some.inj h])
 | _=>exact L2.aQ h
def gB (h:Int->Int->PyData)(d e:PyData):Option PyData:=(dh d).bind fun i=>(dh e).map fun j=>h i j
def hZ (c:Int->Int->Bool)(h:Int->Int->PyData)(d e:PyData):Option PyData:=(dh d).bind fun i=>(dh e).bind fun j=>if c i j=true then some (h i j) else none
theorem wQ {h:Int->Int->PyData}{d e r:PyData}(q:gB h d e=some r):∃ i j,d=.int i∧e=.int j∧r=h i j:=by
 obtain⟨i,h1,q⟩:=bind_some q
 obtain⟨j,h2,q⟩:=map_some q
 exact ⟨i,j,h_ h1,h_ h2,q.symm⟩
theorem DS {c:Int->Int->Bool}{h:Int->Int->PyData}{d e r:PyData}(q:hZ c h d e=some r):∃ i j,d=.int i∧e=.int j∧c i j=true∧r=h i j:=by
 obtain⟨i,h1,q⟩:=bind_some q
 obtain⟨j,h2,q⟩:=bind_some q
 by_cases hc:c i j=true
 ·rw[if_pos hc] at q
  exact ⟨i,j,h_ h1,h_ h2,hc,(Option.some.inj q).symm⟩
 ·rw[if_neg hc] at q;exact L2.aQ q
def one:List PyData->Option PyData
 | [d]=>some d
 | _=>none
theorem oz {ds:List PyData}{d:PyData}(h:one ds=some d):ds=[d]:=by
 cases ds with
 | nil=>exact L2.aQ h
 | cons a r=>
  cases r with
  | nil=>rw[Option.some.inj h]
  | cons b r=>exact L2.aQ h
def two:List PyData->Option (PyData×PyData)
 | [d,e]=>some (d,e)
 | _=>none
theorem Kb {ds:List PyData}{p:PyData×PyData}(h:two ds=some p):ds=[p.1,p.2]:=by
 cases ds with
 | nil=>exact L2.aQ h
 | cons a r=>
  cases r with
  | nil=>exact L2.aQ h
  | cons b r=>
   cases r with
   | nil=>rw[← Option.some.inj h]
   | cons c r=>exact L2.aQ h
theorem kI {K:PySem.W.Frag}{g:Int->Int->V}{h:Int->Int->PyData}(hs:∀ i j,Sc (g i j) (h i j)):j6 K (ik g) (gB h):=fun x y H d e r Q D1 D2 q k=>by
 obtain⟨i,j,zq2,zq3,zq4⟩:=wQ q
 subst zq2
 subst zq3
 subst zq4
 exact ⟨i,j,eI D1,eI D2,k _ (hs i j)⟩
theorem o7 {K:PySem.W.Frag}{C:Int->Int->Prop}{c:Int->Int->Bool}{g:Int->Int->V}{h:Int->Int->PyData}(hs:∀ i j,Sc (g i j) (h i j))(hc:∀ i j,c i j=true->C i j):j6 K (rI C g) (hZ c h):=fun x y H d e r Q D1 D2 q k=>by
 obtain⟨i,j,zq2,zq3,hcc,zq5⟩:=DS q
 subst zq2
 subst zq3
 subst zq5
 exact ⟨i,j,eI D1,eI D2,hc i j hcc,k _ (hs i j)⟩
def fX (i:Int):Bool:=decide (i.natAbs<big)
def bu:=gB fun i j=>.int (i+j)
def dj:=gB fun i j=>.int (i - j)
def wV (i:Int):Bool:=decide (i.natAbs<2 ^ 63)
def bT:=hZ (fun i j=>(fX i&&fX j)||(wV i||wV j)) fun i j=>.int (i*j)
def aU:=hZ (fun _ j=>decide (j≠0)&&fX j) fun i j=>.int (i.fdiv j)
def aM:=hZ (fun _ j=>decide (j≠0)) fun i j=>.int (i.fmod j)
def bI:=hZ (fun i j=>decide (0≤j)&&decide (j≤1000000)&&decide (i.natAbs<2 ^ 64)) fun i j=>.int (i ^ j.toNat)
def bx:=gB fun i j=>.bool (decide (i<j))
def lT:=gB fun i j=>.bool (decide (i≤j))
def km:=gB fun i j=>.bool (decide (j<i))
def eu:=gB fun i j=>.bool (decide (j≤i))
def aF (d e:PyData):Option PyData:=if (SeqAt.shaped d&&SeqAt.shaped e)=true then some (.bool (PyData.eqv d e)) else none
def cO (d e:PyData):Option PyData:=if (SeqAt.shaped d&&SeqAt.shaped e)=true then some (.bool (!PyData.eqv d e)) else none
theorem Ji {K:PySem.W.Frag}:j6 K (y9 K) aF:=fun x y H d e r Q D1 D2 q k=>by
 unfold aF at q
 split at q
 ·rename_i h
  rw[Bool.and_eq_true] at h
  obtain rfl:=Option.some.inj q
  exact ⟨d,e,D1,D2,h.1,h.2,k _ (.bl _)⟩
 ·exact L2.aQ q
theorem Jk {K:PySem.W.Frag}:j6 K (zd K) cO:=fun x y H d e r Q D1 D2 q k=>by
 unfold cO at q
 split at q
 ·rename_i h
  rw[Bool.and_eq_true] at h
  obtain rfl:=Option.some.inj q
  exact ⟨d,e,D1,D2,h.1,h.2,k _ (.bl _)⟩
 ·exact L2.aQ q
theorem v_add (ha:PR X O a fa)(hb:PR X O b fb):PV X O (.BinOp a .Add b pos) (fun ρ=>ae (fa ρ) (fb ρ) bu):=(jD Ga ha hb).imp (iq (kI fun _ _=>.int _))
theorem v_sub (ha:PR X O a fa)(hb:PR X O b fb):PV X O (.BinOp a .Sub b pos) (fun ρ=>ae (fa ρ) (fb ρ) dj):=(jD Gs ha hb).imp (iq (kI fun _ _=>.int _))
theorem v_mul (ha:PR X O a fa)(hb:PR X O b fb):PV X O (.BinOp a .Mult b pos) (fun ρ=>ae (fa ρ) (fb ρ) bT):=(jD Gn ha hb).imp (iq (o7 (fun _ _=>.int _) fun i j h=>by
 rw[Bool.or_eq_true,Bool.or_eq_true,Bool.and_eq_true] at h
 rcases h with h | h | h
 ·exact .inl ⟨of_decide_eq_true h.1,of_decide_eq_true h.2⟩
 ·have:=of_decide_eq_true h
  exact .inr (.inl (by omega))
 ·have:=of_decide_eq_true h
  exact .inr (.inr (by omega))))
theorem cy (ha:PR X O a fa)(hb:PR X O b fb):PV X O (.BinOp a .FloorDiv b pos) (fun ρ=>ae (fa ρ) (fb ρ) aU):=(jD Gf ha hb).imp (iq (o7 (fun _ _=>.int _) fun i j h=>by
 rw[Bool.and_eq_true] at h;exact⟨of_decide_eq_true h.1,of_decide_eq_true h.2⟩))
theorem v_mod (ha:PR X O a fa)(hb:PR X O b fb):PV X O (.BinOp a .Mod b pos) (fun ρ=>ae (fa ρ) (fb ρ) aM):=(jD Gm ha hb).imp (iq (o7 (fun _ _=>.int _) fun i j h=>of_decide_eq_true h))
theorem v_pow (ha:PR X O a fa)(hb:PR X O b fb):PV X O (.BinOp a .Pow b pos) (fun ρ=>ae (fa ρ) (fb ρ) bI):=(jD Gr ha hb).imp (iq (o7 (fun _ _=>.int _) fun i j h=>by
 rw[Bool.and_eq_true,Bool.and_eq_true] at h;exact⟨of_decide_eq_true h.1.1,of_decide_eq_true h.1.2,of_decide_eq_true h.2⟩))
structure eU (X:Cx)(op:CmpOp)(g:PyData->PyData->Option PyData):Prop where
 ex:∃ rd,bX X (compareOp op) rd∧j6 X.K rd g
theorem dO:eU X .Lt bx:=⟨_,Gk,kI fun _ _=>.bl _⟩
theorem vy:eU X .LtE lT:=⟨_,Gj,kI fun _ _=>.bl _⟩
theorem vx:eU X .Gt km:=⟨_,Gh,kI fun _ _=>.bl _⟩
theorem jr:eU X .GtE eu:=⟨_,Gg,kI fun _ _=>.bl _⟩
theorem dq (hu:X.A.units+64<cLine):eU X .Eq aF:=⟨_,Ge hu,Ji⟩
theorem js (hu:X.A.units+64<cLine):eU X .NotEq cO:=⟨_,Gp hu,Jk⟩
theorem kQ {op:CmpOp}{g:PyData->PyData->Option PyData}(C:eU X op g)(ha:PR X O a fa)(hb:PR X O b fb)(h1:op≠.In:=by decide)(h2:op≠.NotIn:=by decide):PV X O (.Compare a [op] [b] pos) (fun ρ=>ae (fa ρ) (fb ρ) g):=by
 obtain⟨rd,ho,hs⟩:=C.ex
 exact (yF ho ha hb (yj b h1 h2)).imp (iq hs)
theorem kc {d:PyData}{b:Bool}(h:jq d=some b):d=.bool b:=by
 unfold jq at h
 split at h
 ·cases h;rfl
 ·exact L2.aQ h
theorem bj {op:CmpOp}{g:PyData->PyData->Option PyData}(C:eU X op g)(ha:PR X O a fa)(hb:PR X O b fb)(h1:op≠.In:=by decide)(h2:op≠.NotIn:=by decide):eG X O (.Compare a [op] [b] pos) (fun ρ=>aw (ae (fa ρ) (fb ρ) g)):=by
 obtain⟨rd,ho,hs⟩:=C.ex
 refine (Hj ho ha hb (yj b h1 h2)).imp fun σ H Q zpat=>?_
 obtain⟨hid,H0,ρ,ow,k,E,hf,q⟩:=zpat
 obtain⟨d,h3,h4⟩:=bind_some hf
 refine iq hs σ H _ ⟨hid,H0,ρ,ow,d,E,h3,fun v H' s D=>?_⟩
 rw[kc h4] at D
 exact⟨k,jv D,q H' s⟩
theorem kN (h:PR X O e f)(he:∀ whole,isTrue e X.env whole=(do let v ← whole;standAt e.pos;holding [v] (truthy v)):=by intro _;rfl):eG X O e (fun ρ=>aw (f ρ)):=
 (Hl h he).imp fun σ H Q zpat=>by
  obtain⟨hid,H0,ρ,ow,k,E,hf,q⟩:=zpat
  obtain⟨d,h3,h4⟩:=bind_some hf
  refine⟨hid,H0,ρ,ow,d,E,h3,fun v H' s D=>?_⟩
  rw[kc h4] at D
  exact⟨k,jv D,q H' s⟩
variable {ga gb:aa->Option Bool}{rest:List Expr}
theorem mq (ha:eG X O a ga):jl X O (.BoolOp .And [a] pos) ga:=Hq ha
theorem jM (ha:eG X O a ga):jl X O (.BoolOp .Or [a] pos) ga:=Hs ha
theorem w_and (ha:eG X O a ga)(hb:jl X O (.BoolOp .And (b::rest) pos) gb):jl X O (.BoolOp .And (a::b::rest) pos) (fun ρ=>cU (ga ρ) (gb ρ)):=
 (Ho ha hb).imp fun σ H Q zpat=>by
  obtain⟨hid,H0,ρ,ow,k,E,hf,q⟩:=zpat
  obtain⟨c,h1,h2⟩:=bind_some hf
  refine⟨hid,H0,ρ,ow,c,E,h1,fun H1 s1=>?_⟩
  cases c with
  | true=>rw[if_pos rfl] at h2 ⊢;exact⟨hid,H0,ρ,ow,k,E.mono s1,h2,fun H2 s2=>q H2 (s1.trans s2)⟩
  | false=>rw[if_neg Bool.false_ne_true] at h2 ⊢;cases h2;exact q H1 s1
theorem w_or (ha:eG X O a ga)(hb:jl X O (.BoolOp .Or (b::rest) pos) gb):jl X O (.BoolOp .Or (a::b::rest) pos) (fun ρ=>dr (ga ρ) (gb ρ)):=
 (Hr ha hb).imp fun σ H Q zpat=>by
  obtain⟨hid,H0,ρ,ow,k,E,hf,q⟩:=zpat
  obtain⟨c,h1,h2⟩:=bind_some hf
  refine⟨hid,H0,ρ,ow,c,E,h1,fun H1 s1=>?_⟩
  cases c with
  | true=>rw[if_pos rfl] at h2 ⊢;cases h2;exact q H1 s1
  | false=>rw[if_neg Bool.false_ne_true] at h2 ⊢;exact⟨hid,H0,ρ,ow,k,E.mono s1,h2,fun H2 s2=>q H2 (s1.trans s2)⟩
theorem fH (h:jl X O e ga):eG X O e ga:=h.pt
theorem tH (ha:eG X O a ga):eG X O (.UnaryOp .Not a pos) (fun ρ=>(ga ρ).map not):=(Hk ha).imp fun σ H Q zpat=>by
 obtain⟨hid,H0,ρ,ow,k,E,hf,q⟩:=zpat
 obtain⟨c,h1,h2⟩:=map_some hf
 subst h2
 exact⟨hid,H0,ρ,ow,c,E,h1,fun H1 s1=>q H1 s1⟩
theorem zg {op:BoolOp}(h:PR X O a fa):PR X O (.BoolOp op [a] pos) fa:=GB h
theorem HB (ha:PR X O a fa)(hb:PR X O (.BoolOp .And (b::rest) pos) fb):PR X O (.BoolOp .And (a::b::rest) pos) (fun ρ=>gu (fa ρ) (fb ρ)):=
 (Gu ha hb).imp fun σ H Q zpat=>by
  obtain⟨hid,H0,ρ,ow,k,E,hf,q⟩:=zpat
  obtain⟨c,h1,h2⟩:=bind_some hf
  obtain⟨d,h3,h4⟩:=bind_some h1
  refine⟨hid,H0,ρ,ow,d,E,h3,fun v H1 s1 D=>?_⟩
  rw[kc h4] at D
  refine⟨c,jv D,?_⟩
  cases c with
  | true=>rw[if_pos rfl] at h2 ⊢;exact⟨hid,H0,ρ,ow,k,E.mono s1,h2,fun w H2 s2 D2=>q w H2 (s1.trans s2) D2⟩
  | false=>rw[if_neg Bool.false_ne_true] at h2 ⊢;cases h2;exact q _ H1 s1 (.bl false)
theorem HF (ha:PR X O a fa)(hb:PR X O (.BoolOp .Or (b::rest) pos) fb):PR X O (.BoolOp .Or (a::b::rest) pos) (fun ρ=>gD (fa ρ) (fb ρ)):=
 (GC ha hb).imp fun σ H Q zpat=>by
  obtain⟨hid,H0,ρ,ow,k,E,hf,q⟩:=zpat
  obtain⟨c,h1,h2⟩:=bind_some hf
  obtain⟨d,h3,h4⟩:=bind_some h1
  refine⟨hid,H0,ρ,ow,d,E,h3,fun v H1 s1 D=>?_⟩
  rw[kc h4] at D
  refine⟨c,jv D,?_⟩
  cases c with
  | true=>rw[if_pos rfl] at h2 ⊢;cases h2;exact q _ H1 s1 (.bl true)
  | false=>rw[if_neg Bool.false_ne_true] at h2 ⊢;exact⟨hid,H0,ρ,ow,k,E.mono s1,h2,fun w H2 s2 D2=>q w H2 (s1.trans s2) D2⟩
def cg:PyData->Option PyData
 | .int i=>some (.int (-i))
 | _=>none
theorem fJ (ha:PR X O a fa):PV X O (.UnaryOp .USub a pos) (fun ρ=>(fa ρ).bind cg):=(GG Kf ha).imp fun σ H Q zpat=>by
 obtain⟨hid,H0,ρ,ow,k,E,hf,q⟩:=zpat
 obtain⟨d,h1,h2⟩:=bind_some hf
 unfold cg at h2
 split at h2
 ·obtain rfl:=Option.some.inj h2
  exact⟨hid,H0,ρ,ow,_,E,h1,fun v H1 s1 D=>⟨_,eI D,q _ H1 s1 (.int _)⟩⟩
 ·exact L2.aQ h2
def kd (x y:Option PyData)(g g':PyData->PyData->Option PyData)(z:Option PyData):Option PyData:=x.bind fun d=>y.bind fun e=>((g d e).bind jq).bind fun k=>if k=true then z.bind fun h=>g' e h else some (.bool false)
theorem J1 {op op':CmpOp}{g g':PyData->PyData->Option PyData}(C:eU X op g)(C':eU X op' g')(ha:PR X O a fa)(hb:PR X O b fb)(hc:PR X O c fc)(hm:lastMarks [op,op'] [b,c]=false:=by with_unfolding_all rfl) :
  eG X O (.Compare a [op,op'] [b,c] pos) (fun ρ=>aw (kd (fa ρ) (fb ρ) g g' (fc ρ))):=by
 obtain⟨rd,ho,hs⟩:=C.ex
 obtain⟨rd',ho',hs'⟩:=C'.ex
 refine (Hi ho ho' ha hb hc hm).imp fun σ H Q zpat=>?_
 obtain⟨hid,H0,ρ,ow,r,E,hf,q⟩:=zpat
 obtain⟨rd2,hf,hr2⟩:=bind_some hf
 have hrb:=kc hr2
 subst hrb
 obtain⟨d,h1,hf⟩:=bind_some hf
 obtain⟨e,h2,hf⟩:=bind_some hf
 obtain⟨k,h3,hf⟩:=bind_some hf
 obtain⟨z,h4,h5⟩:=bind_some h3
 have hz:=kc h5
 subst hz
 refine⟨hid,H0,ρ,ow,d,E,h1,fun x H1 s1 D1=>⟨hid,H0,ρ,ow,e,E.mono s1,h2,fun y H2 s2 D2=>hs x y H2 d e _ _ ((D1.mono (aY s2 _)).mono (bA _ _)) (D2.mono (bA _ _)) h4 fun v S=>?_⟩⟩
 cases S
 refine⟨k,rfl,?_⟩
 cases k with
 | true=>
  rw[if_pos rfl] at hf ⊢
  obtain⟨h,h6,h7⟩:=bind_some hf
  exact⟨hid,H0,ρ,ow,h,(E.mono s1).mono s2,h6,fun w H3 s3 D3=>hs' y w H3 e h _ _ ((D2.mono (aY s3 _)).mono (bA _ _)) (D3.mono (bA _ _)) h7 fun v S=>by
   cases S
   exact⟨r,rfl,q H3 ((s1.trans s2).trans s3)⟩⟩
 | false=>
  rw[if_neg Bool.false_ne_true] at hf ⊢
  cases hf
  exact⟨false,rfl,q H2 (s1.trans s2)⟩
def ay (d e:PyData):Option PyData:=(o4 d).bind fun ds=>(dh e).bind fun i=>atI ds i
theorem Jj {K:PySem.W.Frag}:uT K (fun x y H Q=>zb K x y H Q∨zc K x y H Q) ay:=fun x y H G d e r Q s D1 D2 q k=>by
 obtain⟨ds,h1,q⟩:=bind_some q
 obtain⟨i,h2,q⟩:=bind_some q
 obtain rfl:=h_ h2
 rcases zx h1 with rfl | rfl
 ·obtain⟨p,vs,rfl,h1,h2⟩:=df D1
  obtain⟨v,h3,h4⟩:=h2.atI q
  exact .inl ⟨p,vs,_,v,rfl,eI D2,s.seq h1,h3,k v h4⟩
 ·obtain⟨p,vs,rfl,h1,h2⟩:=nQ D1
  obtain⟨v,h3,h4⟩:=h2.atI q
  exact .inr ⟨p,vs,_,v,rfl,eI D2,s.tup h1,h3,k v h4⟩
theorem bo (ha:PR X O a fa)(hb:PR X O b fb)(hs:uL b:=by intro _ _;rfl):PR X O (.Subscript a b pos) (fun ρ=>ae (fa ρ) (fb ρ) ay):=(Gy (Ef.or Eg) ha hb hs).imp (JM Jj)
variable {es:List Expr}{fs:aa->Option (List PyData)}
theorem aB:fj X O [] (fun _=>some []):=pa_nil.imp fun σ H Q ⟨hid,H0,ρ,ow,ds,E,hf,k⟩=>by cases hf;exact k [] H (aj.refl H) .nil
theorem ao (ha:PR X O a fa)(hr:fj X O es fs)(hs:starEach (a::es) X.env=(false,eval a X.env)::starEach es X.env:=by rfl):fj X O (a::es) (fun ρ=>af (fa ρ) (fs ρ)):=
 (pa_cons ha hr hs).imp fun σ H Q zpat=>by
  obtain⟨hid,H0,ρ,ow,ds,E,hf,k⟩:=zpat
  obtain⟨d,h1,hf⟩:=bind_some hf
  obtain⟨r,h2,rfl⟩:=map_some hf
  exact⟨hid,H0,ρ,ow,d,E,h1,fun x H1 s1 D1=>⟨hid,H0,ρ,ow,r,E.mono s1,h2,fun xs H2 s2 D2=>k (x::xs) H2 (s1.trans s2) (.cons (D1.mono (aY s2 _)) D2)⟩⟩
theorem bE:gP X O [] (fun _=>some []):=pa_nil.imp fun σ H Q ⟨hid,H0,ρ,ow,ds,E,hf,k⟩=>by cases hf;exact k [] H (aj.refl H) .nil
theorem aJ (ha:PV X O a fa)(hr:gP X O es fs)(hs:starEach (a::es) X.env=(false,eval a X.env)::starEach es X.env:=by rfl):gP X O (a::es) (fun ρ=>af (fa ρ) (fs ρ)):=
 (pa_cons ha hr hs).imp fun σ H Q zpat=>by
  obtain⟨hid,H0,ρ,ow,ds,E,hf,k⟩:=zpat
  obtain⟨d,h1,hf⟩:=bind_some hf
  obtain⟨r,h2,rfl⟩:=map_some hf
  exact⟨hid,H0,ρ,ow,d,E,h1,fun x H1 s1 D1=>⟨hid,H0,ρ,ow,r,E.mono s1,h2,fun xs H2 s2 D2=>k (x::xs) H2 (s1.trans s2) (.cons (D1.mono (aY s2 _)) D2)⟩⟩
theorem rG {n:Nat}(h:decide (n≤1000)=true):n≤sizeLine:=Nat.le_trans (of_decide_eq_true h) (by decide)
def cP (f:List PyData->PyData)(o:Option (List PyData)):Option PyData:=o.bind fun ds=>if decide (ds.length≤1000)=true then some (f ds) else none
theorem Ja {f:List PyData->PyData}{o:Option (List PyData)}{r:PyData}(h:cP f o=some r):∃ ds,o=some ds∧ds.length≤sizeLine∧r=f ds:=by
 obtain⟨ds,h1,h2⟩:=bind_some h
 split at h2
 ·rename_i hc
  exact⟨ds,h1,rG hc,(Option.some.inj h2).symm⟩
 ·exact L2.aQ h2
theorem gE {x1}(h:fj X O es fs):PR X O (.Tuple es x1 pos) (fun ρ=>cP .tuple (fs ρ)):=(GF h).imp fun σ H Q zpat=>by
 obtain⟨hid,H0,ρ,ow,r,E,hf,k⟩:=zpat
 obtain⟨ds,h1,h2,zq3⟩:=Ja hf
 subst zq3
 refine⟨hid,H0,ρ,ow,ds,E,h1,fun vs H1 s1 D1=>⟨by rw[D1.length];exact h2,fun p hp=>?_⟩⟩
 exact k _ _ (s1.trans (bK hp)) (.tup (cn.of ((E.mono s1).newAtR hp)) (D1.mono (aY (bK hp) _)))
def aC (o:Option (List PyData)):Option (List PyData):=o.bind fun ds=>if decide (ds.length≤1000)=true then some ds else none
theorem zM {o:Option (List PyData)}{r:List PyData}(h:aC o=some r):o=some r∧r.length≤sizeLine:=by
 obtain⟨ds,h1,h2⟩:=bind_some h
 split at h2
 ·rename_i hc
  obtain rfl:=Option.some.inj h2
  exact⟨h1,rG hc⟩
 ·exact L2.aQ h2
theorem fV (h:gP X O es fs):bL X O (.List es pos) (fun ρ=>aC (fs ρ)):=(yK h).imp fun σ H Q zpat=>by
 obtain⟨hid,H0,ρ,ow,r,E,hf,k⟩:=zpat
 obtain⟨h1,h2⟩:=zM hf
 refine⟨hid,H0,ρ,ow,r,E,h1,fun vs H1 s1 D1=>⟨by rw[D1.length];exact h2,fun p hp=>?_⟩⟩
 exact k _ vs _ (s1.trans (bK hp)) (s1.free hp) bC (D1.mono (ju (bK hp) hp fun b z=>by rcases z with z | z;exact .inl (.inl z);rcases List.mem_cons.mp z with z | z;exact .inr z;exact .inl (.inr z)))
theorem bS (h:fj X O es fs):aP X O (.List es pos) (fun ρ=>aC (fs ρ)):=(yK h).imp fun σ H Q zpat=>by
 obtain⟨hid,H0,ρ,ow,r,E,hf,k⟩:=zpat
 obtain⟨h1,h2⟩:=zM hf
 refine⟨hid,H0,ρ,ow,r,E,h1,fun vs H1 s1 D1=>⟨by rw[D1.length];exact h2,fun p hp=>?_⟩⟩
 exact k _ vs _ (s1.trans (bK hp)) (s1.free hp) bC (D1.mono (ju (bK hp) hp fun b z=>by rcases z with z | z;exact .inl z;exact .inr (by simpa using z)))
def bZ (x y:Option PyData):Option (List PyData):=(x.bind br).bind fun ds=>(y.bind br).bind fun es=>if decide ((ds++es).length≤1000)=true then some (ds++es) else none
theorem fD {d:PyData}{ds:List PyData}(h:br d=some ds):d=.list ds:=by
 cases d with
 | list es=>rw[Option.some.inj h]
 | _=>exact L2.aQ h
theorem BU {x y:Option PyData}{r:List PyData}(h:bZ x y=some r):∃ ds es,x=some (.list ds)∧y=some (.list es)∧r=ds++es∧ds.length+es.length≤sizeLine:=by
 obtain⟨ds,h1,h⟩:=bind_some h
 obtain⟨es,h2,h⟩:=bind_some h
 obtain⟨d,h3,h4⟩:=bind_some h1
 obtain⟨e,h5,h6⟩:=bind_some h2
 rw[fD h4] at h3
 rw[fD h6] at h5
 split at h
 ·rename_i hc
  obtain rfl:=Option.some.inj h
  exact ⟨ds,es,h3,h5,rfl,(by rw[← List.length_append];exact rG hc)⟩
 ·exact L2.aQ h
theorem hV (ha:PR X O a fa)(hb:PR X O b fb):aP X O (.BinOp a .Add b pos) (fun ρ=>bZ (fa ρ) (fb ρ)):=(jD Gb ha hb).imp fun σ H Q zpat=>by
 obtain⟨hid,H0,ρ,ow,r,E,hf,k⟩:=zpat
 obtain⟨ds,es,h1,h2,zq4,hl⟩:=BU hf
 subst zq4
 refine⟨hid,H0,ρ,ow,_,E,h1,fun x H1 s1 D1=>⟨hid,H0,ρ,ow,_,E.mono s1,h2,fun y H2 s2 D2=>?_⟩⟩
 obtain⟨l,xs,rfl,q1,r1⟩:=df D1
 obtain⟨m,ys,rfl,q2,r2⟩:=df D2
 refine ⟨l,m,xs,ys,rfl,rfl,s2.seq ((bA _ _).seq q1),(bA _ _).seq q2,(by rw[r1.length,r2.length];exact hl),(fun p hp=>?_)⟩
 exact k _ _ _ ((s1.trans s2).trans (bK hp)) ((s1.trans s2).free hp) bC (((r1.mono (aY s2 _)).append r2).mono (ju (bK hp) hp fun b z=>by rcases z with z | z;exact .inl z;exact .inr (by simpa using z)))
def bB (K:PySem.W.Frag)(T:Ty)(F:List PyData->Option PyData):Sp:=fun vs H Q _=>∃ (hid:Addr->Prop) (ds:List PyData) (r:PyData),(∀ b,hid b->∃ vs:bP,H b=some vs.ho)∧ar K (ah H hid) vs ds∧F ds=some r∧∀ v as H',aj H H'->(∀ p∈as,H p=none)->a_ K H' (ah H' (uni hid as)) T v r as->Q v H'
def jK (K:PySem.W.Frag)(O:Ow)(T:Ty)(f:aa->Option PyData):TE:=fun σ H Q=>dk K O f σ H fun hid H0 ρ ow d=>∀ v as H',aj H H'->(∀ p∈as,H p=none)->a_ K H' (ah H' (uni hid (as++ow))) T v d as->Q v H'
abbrev dJ (X:Cx)(O:Ow)(T:Ty)(e:Expr)(f:aa->Option PyData):Prop:=PE X e (jK X.K O T f)
theorem tN {hid:Addr->Prop}{as bs:List Addr}(h:∀ p∈as,p∈bs)(b:Addr)(z:uni hid as b):uni hid bs b:=by
 rcases z with z | z
 ·exact .inl z
 ·exact .inr (h b z)
theorem bL.ft {f:aa->Option (List PyData)}(h:bL X O e f):dJ X O (.lst .cl) e (fun ρ=>(f ρ).map .list):=h.imp fun σ H Q zpat=>by
 obtain⟨hid,H0,ρ,ow,d,E,hf,k⟩:=zpat
 obtain⟨ds,h1,rfl⟩:=map_some hf
 refine⟨hid,H0,ρ,ow,ds,E,h1,fun l vs H' s n q D=>k (.ref l) [l] H' s (fun p hp=>by rw[List.mem_singleton.mp hp];exact n) (.lst q D.os (by simp))⟩
theorem PV.ft (h:PV X O e f):dJ X O .cl e f:=h.imp fun σ H Q ⟨hid,H0,ρ,ow,d,E,hf,k⟩=>⟨hid,H0,ρ,ow,d,E,hf,fun v H' s D=>k v [] H' s (fun p hp=>by cases hp) (.cl D)⟩
theorem HC {k:Nat}{g:Addr}{fd:FuncData}{ps:List Str}{x:Str}{p:Pos}{T:Ty}{F:List PyData->Option PyData}(G:aS X.prog X.w X.K X.mg X.base bc k g fd ps (bB X.K T F))(hr:ba k X.A)(hg:Gl X x)(hm:X.mg x=some (.ref g))(hk:PySem.W.keepIn X.K (.ref g)=true)(hb:Binds X.K fd ps [])
  (ha:fj X O (a::es) fs) (hdb:(x==("__debug__":Str))=false:=by decide) (he:starEach (a::es) X.env=(false,eval a X.env)::starEach es X.env:=by rfl) (hpl:(backTo pos (starEach es X.env)).any (·.1)=false:=by rfl) :
  PR X O (.Call (.Name x p) (a::es) [] pos) (fun ρ=>(fs ρ).bind F):=
 (se G hr hg hm hk hb .nil r_ ha hdb he hpl).imp fun σ H Q zpat=>by
  obtain⟨hid,H0,ρ,ow,r,E,hf,q⟩:=zpat
  obtain⟨ds,h1,h2⟩:=bind_some hf
  refine⟨hid,H0,ρ,ow,ds,E,h1,fun vs H1 s1 D1=>⟨hid,ds,r,(E.mono s1).ishL,by rw[List.append_nil];exact D1,h2,fun v as H2 s2 n2 D2=>q v H2 (s1.trans s2) ?_⟩⟩
  exact D2.raw (fq _ _ _) fun p hp o e=>by rw[bb fun z=>(E.mono s1).ish p z (n2 p hp)];exact e
theorem C2 {k:Nat}{g:Addr}{fd:FuncData}{ps:List Str}{x:Str}{p:Pos}{T:Ty}{F:List PyData->Option PyData}(G:aS X.prog X.w X.K X.mg X.base bc k g fd ps (bB X.K T F))(hr:ba k X.A)(hg:Gl X x)(hm:X.mg x=some (.ref g))(hk:PySem.W.keepIn X.K (.ref g)=true)(hb:Binds X.K fd ps [])
  (ha:gP X O (a::es) fs) (hdb:(x==("__debug__":Str))=false:=by decide) (he:starEach (a::es) X.env=(false,eval a X.env)::starEach es X.env:=by rfl) (hpl:(backTo pos (starEach es X.env)).any (·.1)=false:=by rfl) :
  dJ X O T (.Call (.Name x p) (a::es) [] pos) (fun ρ=>(fs ρ).bind F):=
 (se G hr hg hm hk hb .nil r_ ha hdb he hpl).imp fun σ H Q zpat=>by
  obtain⟨hid,H0,ρ,ow,r,E,hf,q⟩:=zpat
  obtain⟨ds,h1,h2⟩:=bind_some hf
  refine⟨hid,H0,ρ,ow,ds,E,h1,fun vs H1 s1 D1=>⟨uni hid ow,ds,r,(E.mono s1).uniL,by rw[List.append_nil];exact D1,h2,fun v as H2 s2 n2 D2=>q v as H2 (s1.trans s2) (fun p hp=>s1.free (n2 p hp)) ?_⟩⟩
  refine D2.mono (fR fun b z=>?_) fun p _ o e=>e
  rcases z with z | z
  ·exact .inl (.inl z)
  ·rcases List.mem_append.mp z with z | z
   ·exact .inr z
   ·exact .inl (.inr z)
theorem Kg {k:Nat}{g:Addr}{fd:FuncData}{ps:List Str}{x:Str}{p:Pos}{T:Ty}{F:List PyData->Option PyData}(G:aS X.prog X.w X.K X.mg X.base bc k g fd ps (bB X.K T F))(hr:ba k X.A)(hg:Gl X x)(hm:X.mg x=some (.ref g))(hk:PySem.W.keepIn X.K (.ref g)=true)(hb:Binds X.K fd ps [])
  (ha:gP X O (a::es) fs) (hdb:(x==("__debug__":Str))=false:=by decide) (he:starEach (a::es) X.env=(false,eval a X.env)::starEach es X.env:=by rfl) (hpl:(backTo pos (starEach es X.env)).any (·.1)=false:=by rfl) :
  PV X O (.Call (.Name x p) (a::es) [] pos) (fun ρ=>(fs ρ).bind F):=
 (se G hr hg hm hk hb .nil r_ ha hdb he hpl).imp fun σ H Q zpat=>by
  obtain⟨hid,H0,ρ,ow,r,E,hf,q⟩:=zpat
  obtain⟨ds,h1,h2⟩:=bind_some hf
  refine⟨hid,H0,ρ,ow,ds,E,h1,fun vs H1 s1 D1=>⟨uni hid ow,ds,r,(E.mono s1).uniL,by rw[List.append_nil];exact D1,h2,fun v as H2 s2 n2 D2=>q v H2 (s1.trans s2) ?_⟩⟩
  exact D2.raw (fq _ _ _) fun p hp o e=>by rw[bb fun z=>(E.mono s1).fresh (n2 p hp) z];exact e
def JS (K:PySem.W.Frag)(O:Ow)(U:List Nat)(T:Ty)(f:aa->Option PyData):TE:=fun σ H Q=>∃ hid H0 ρ ow d A,aE K O hid H0 σ H ρ ow∧j4 K O hid σ H ρ ow A∧f ρ=some d∧∀ v as H',aj H H'->(∀ p∈as,H p=none∨∃ i∈U,p∈A i)->a_ K H' (ah H' (uni hid (as++ow))) T v d as->Q v H'
def JQ (K:PySem.W.Frag)(O:Ow)(U:List Nat)(Ts:List Ty)(f:aa->Option (List PyData)):TA:=fun σ H Q=>∃ hid H0 ρ ow ds A,aE K O hid H0 σ H ρ ow∧j4 K O hid σ H ρ ow A∧f ρ=some ds∧∀ vs as H',aj H H'->(∀ p∈as,H p=none∨∃ i∈U,p∈A i)->bQ K H' (ah H' (uni hid (as++ow))) Ts vs ds as->Q vs H'
abbrev m8 (X:Cx)(O:Ow)(U:List Nat)(T:Ty)(e:Expr)(f:aa->Option PyData):Prop:=PE X e (JS X.K O U T f)
abbrev KI (X:Cx)(O:Ow)(U:List Nat)(Ts:List Ty)(es:List Expr)(f:aa->Option (List PyData)):Prop:=PA X es (JQ X.K O U Ts f)
variable {T:Ty}{Ts:List Ty}{U U':List Nat}
theorem dJ.rt (h:dJ X O T e f):m8 X O [] T e f:=h.imp fun σ H Q zpat=>by
 obtain⟨hid,H0,ρ,ow,d,A,E,EA,hf,k⟩:=zpat
 exact⟨hid,H0,ρ,ow,d,E,hf,fun v as H' s n D=>k v as H' s (fun p hp=>.inl (n p hp)) D⟩
theorem Iu {i:Nat}(h:PE X e (fG i))(hi:O.s.lookup i=some T:=by rfl):m8 X O [i] T e (fun ρ=>(ρ[i]?).join):=h.imp fun σ H Q zpat=>by
 obtain⟨hid,H0,ρ,ow,d,A,E,EA,hf,k⟩:=zpat
 obtain⟨v,h1,h2⟩:=EA.1 i T d hi (join_some hf)
 refine⟨v,h1,k v (A i) H (aj.refl H) (fun p hp=>.inr ⟨i,List.mem_singleton.mpr rfl,hp⟩) (h2.mono (fR fun b z=>?_) fun p _ o e=>e)⟩
 rcases z with z | z
 ·exact .inl z
 ·rcases List.mem_append.mp z with z | z
  ·exact .inr (EA.2.2 i b z)
  ·exact .inr z
def A6 (K:PySem.W.Frag)(r:List V->Hp->VK->Prop)(g:List PyData->Option PyData):Prop:=∀ xs H ds d Q,ar K H xs ds->g ds=some d->(∀ v,Sc v d->Q v H)->r xs H Q
structure jR (X:Cx)(u:Value)(g:List PyData->Option PyData):Prop where
 ex:∃ r,dz X u r∧A6 X.K r g
theorem dw {x:Str}{p:Pos}{id:String}{g:List PyData->Option PyData}(C:jR X (.builtin id) g)(hg:Gl X x)(hm:X.mg x=none)(hv:bootBuiltins x=some (.builtin id))(ha:fj X O (a::es) fs)(hn:x≠"__name__":=by decide)(hdb:(x==("__debug__":Str))=false:=by decide)
  (he:starEach (a::es) X.env=(false,eval a X.env)::starEach es X.env:=by rfl) (hpl:(backTo pos (starEach es X.env)).any (·.1)=false:=by rfl):PV X O (.Call (.Name x p) (a::es) [] pos) (fun ρ=>(fs ρ).bind g):=by
 obtain⟨r,hc,hs⟩:=C.ex
 refine (jC hc hg hm hv ha hn hdb he hpl).imp fun σ H Q zpat=>?_
 obtain⟨hid,H0,ρ,ow,d,E,hf,q⟩:=zpat
 obtain⟨ds,h1,h2⟩:=bind_some hf
 exact⟨hid,H0,ρ,ow,ds,E,h1,fun vs H1 s1 D1=>hs vs H1 ds d Q (D1.mono (bA _ _)) h2 fun v S=>q v H1 s1 S.den⟩
theorem Kh {x:Str}{p:Pos}{T:String}{g:List PyData->Option PyData}(C:jR X (.type T) g)(hg:Gl X x)(hm:X.mg x=none)(hv:bootBuiltins x=some (.type T))(ha:fj X O (a::es) fs)(hn:x≠"__name__":=by decide)(hdb:(x==("__debug__":Str))=false:=by decide)
  (he:starEach (a::es) X.env=(false,eval a X.env)::starEach es X.env:=by rfl) (hpl:(backTo pos (starEach es X.env)).any (·.1)=false:=by rfl):PV X O (.Call (.Name x p) (a::es) [] pos) (fun ρ=>(fs ρ).bind g):=by
 obtain⟨r,hc,hs⟩:=C.ex
 refine (yE hc hg hm hv ha hn hdb he hpl).imp fun σ H Q zpat=>?_
 obtain⟨hid,H0,ρ,ow,d,E,hf,q⟩:=zpat
 obtain⟨ds,h1,h2⟩:=bind_some hf
 exact⟨hid,H0,ρ,ow,ds,E,h1,fun vs H1 s1 D1=>hs vs H1 ds d Q (D1.mono (bA _ _)) h2 fun v S=>q v H1 s1 S.den⟩
def qG (ds:List PyData):Option PyData:=(one ds).bind fun d=>(dh d).map fun i=>.int (if i<0 then -i else i)
def cw (ds:List PyData):Option PyData:=(one ds).bind fun d=>(o4 d).map fun es=>.int es.length
def rQ (ds:List PyData):Option PyData:=(two ds).bind fun p=>gB (fun i j=>.int (if j<i then j else i)) p.1 p.2
def DT:PyData->Option PyData
 | .int i=>some (.int i)
 | .bool b=>some (.int (if b then 1 else 0))
 | _=>none
def intD (ds:List PyData):Option PyData:=(one ds).bind DT
theorem l6 {K:PySem.W.Frag}{H:Hp}{vs:List V}{d:PyData}(h:ar K H vs [d]):∃ v,vs=[v]∧az K H v d:=by
 obtain⟨v,ws,zq2,h1,h2⟩:=nR h
 subst zq2
 rw[qS h2]
 exact⟨v,rfl,h1⟩
theorem J_ {K:PySem.W.Frag}{H:Hp}{vs:List V}{d e:PyData}(h:ar K H vs [d,e]):∃ v w,vs=[v,w]∧az K H v d∧az K H w e:=by
 obtain⟨v,ws,zq2,h1,h2⟩:=nR h
 subst zq2
 obtain⟨w,zq1,h3⟩:=l6 h2
 subst zq1
 exact ⟨v,w,rfl,h1,h3⟩
theorem Bp:jR X (.builtin "abs") qG:=⟨_,BH,fun xs H ds d Q D h k=>by
 obtain⟨e,h1,h⟩:=bind_some h
 obtain⟨i,h2,rfl⟩:=map_some h
 obtain rfl:=oz h1
 obtain rfl:=h_ h2
 obtain⟨v,zq1,D1⟩:=l6 D
 subst zq1
 exact⟨_,by rw[eI D1],k _ (.int _)⟩⟩
theorem dM:jR X (.builtin "len") cw:=⟨_,BK,fun xs H ds d Q D h k=>by
 obtain⟨e,h1,h⟩:=bind_some h
 obtain⟨es,h2,rfl⟩:=map_some h
 obtain rfl:=oz h1
 obtain⟨v,zq1,D1⟩:=l6 D
 subst zq1
 rcases zx h2 with rfl | rfl
 ·obtain⟨p,vs,rfl,q,r⟩:=df D1
  exact ⟨p,vs,rfl,.inl q,(by rw[r.length];exact k _ (.int _))⟩
 ·obtain⟨p,vs,rfl,q,r⟩:=nQ D1
  exact ⟨p,vs,rfl,.inr q,(by rw[r.length];exact k _ (.int _))⟩⟩
theorem Ka {K:PySem.W.Frag}{H:Hp}{vs:List V}{ds:List PyData}{g:Int->Int->PyData}{r:PyData}(D:ar K H vs ds)(h:((two ds).bind fun p=>gB g p.1 p.2)=some r):∃ i j,vs=[.int i,.int j]∧r=g i j:=by
 obtain⟨p,h1,h⟩:=bind_some h
 obtain⟨i,j,h2,h3,h4⟩:=wQ h
 obtain rfl:=Kb h1
 rw[h2,h3] at D
 obtain⟨v,w,zq2,D1,D2⟩:=J_ D
 subst zq2
 exact ⟨i,j,(by rw[eI D1,eI D2]),h4⟩
theorem Br (hc:X.calm=true):jR X (.builtin "min") rQ:=⟨_,BL hc,fun xs H ds d Q D h k=>by
 obtain⟨i,j,h1,h2⟩:=Ka D h
 subst h2
 exact ⟨i,j,h1,k _ (.int _)⟩⟩
theorem Bq:jR X (.type "int") intD:=⟨_,BJ,fun xs H ds d Q D h k=>by
 obtain⟨e,h1,h⟩:=bind_some h
 obtain rfl:=oz h1
 obtain⟨v,zq1,D1⟩:=l6 D
 subst zq1
 cases e with
 | int i=>
  obtain rfl:=Option.some.inj h
  exact .inl ⟨_,by rw[eI D1],k _ (.int _)⟩
 | bool b=>
  obtain rfl:=Option.some.inj h
  exact .inr ⟨_,by rw[jv D1],k _ (.int _)⟩
 | _=>exact L2.aQ h⟩
end
end L2
namespace L2
variable [Reg]
inductive uU (K:PySem.W.Frag)(O:Ow)(S:PyData->aa->Option aa)(v:V)(σ:St)(H:Hp)(Q:St->Hp->Prop):Prop
 | mk (hid:Addr->Prop) (H0:Hp) (ρ:aa) (ow:List Addr) (d:PyData) (ρ':aa) (E:aE K O hid H0 σ H ρ ow) (D:az K (ah H (uni hid ow)) v d) (hs:S d ρ=some ρ') (k:∀ σ',aE K O hid H0 σ' H ρ' ow->Q σ' H):uU K O S v σ H Q
def tG (K:PySem.W.Frag)(O:Ow)(S:PyData->aa->Option aa):TG:=fun v σ H Q=>uU K O S v σ H Q
inductive uV (K:PySem.W.Frag)(O:Ow)(S:List PyData->aa->Option aa)(vs:List V)(σ:St)(H:Hp)(Q:St->Hp->Prop):Prop
 | mk (hid:Addr->Prop) (H0:Hp) (ρ:aa) (ow:List Addr) (ds:List PyData) (ρ':aa) (E:aE K O hid H0 σ H ρ ow) (D:ar K (ah H (uni hid ow)) vs ds) (hs:S ds ρ=some ρ') (k:∀ σ',aE K O hid H0 σ' H ρ' ow->Q σ' H):uV K O S vs σ H Q
def JE (K:PySem.W.Frag)(O:Ow)(S:List PyData->aa->Option aa):fP:=fun vs σ H Q=>uV K O S vs σ H Q
abbrev gj (X:Cx)(O:Ow)(tg:Expr)(S:PyData->aa->Option aa):Prop:=PG X tg (tG X.K O S)
abbrev lj (X:Cx)(O:Ow)(tg:List Expr)(S:List PyData->aa->Option aa):Prop:=gQ X tg (JE X.K O S)
def aO (i:Nat)(d:PyData)(ρ:aa):Option aa:=some (ρ.set i (some d))
def bM (S:PyData->aa->Option aa)(T:List PyData->aa->Option aa):List PyData->aa->Option aa
 | d::r,ρ=>(S d ρ).bind (T r)
 | [],_=>none
def dE:List PyData->aa->Option aa
 | [],ρ=>some ρ
 | _::_,_=>none
def ey (n:Nat)(T:List PyData->aa->Option aa):PyData->aa->Option aa
 | .tuple ds,ρ=>if ds.length=n then T ds ρ else none
 | _,_=>none
section
variable {X:Cx}{O:Ow}{pos:Pos}
theorem cC {i:Nat}{x:Str}(hN:X.N.Nodup)(hi:X.N[i]?=some x)(hx:Loc X.env.scope x)(hO:O.s.lookup i=none:=by rfl)(hf:X.fn x=true∨X.env.scope.names.lookup x=some .local:=by first | exact .inl rfl | exact .inr rfl | assumption):gj X O (.Name x pos) (aO i):=
 (GJ hN hi hx hf).imp fun v σ H Q zpat=>by
  obtain⟨hid,H0,ρ,ow,d,ρ',E,D,hS,k⟩:=zpat
  obtain rfl:=Option.some.inj hS
  exact k _ (E.set hO D)
theorem lM:lj X O [] dE:=GN.imp fun vs σ H Q zpat=>by
 obtain⟨hid,H0,ρ,ow,ds,ρ',E,D,hS,k⟩:=zpat
 cases ds with
 | nil=>cases hS;exact⟨qS D,k _ E⟩
 | cons d r=>exact L2.aQ hS
theorem gz {e:Expr}{es:List Expr}{S:PyData->aa->Option aa}{T:List PyData->aa->Option aa}(h1:gj X O e S)(h2:lj X O es T)(hs:(assignEach (e::es) X.env).map (·.2)=assign e X.env::(assignEach es X.env).map (·.2):=by rfl):lj X O (e::es) (bM S T):=
 (GL h1 h2 hs).imp fun vs σ H Q zpat=>by
  obtain⟨hid,H0,ρ,ow,ds,ρ',E,D,hS,k⟩:=zpat
  cases ds with
  | nil=>exact L2.aQ hS
  | cons d r=>
   obtain⟨v,ws,zq2,D1,D2⟩:=nR D
   subst zq2
   obtain⟨ρ1,h3,h4⟩:=bind_some hS
   exact⟨v,ws,rfl,hid,H0,ρ,ow,d,ρ1,E,D1,h3,fun σ1 E1=>⟨hid,H0,ρ1,ow,r,ρ',E1,D2,h4,k⟩⟩
theorem n6 {es:List Expr}{k n:Nat}{T:List PyData->aa->Option aa}(hc:X.calm=true)(h:lj X O es T)(hn:(assignEach es X.env).length=n:=by rfl)(hst:(assignEach es X.env).findIdx? (·.1)=none:=by rfl):gj X O (.Tuple es k pos) (ey n T):=
 (GK hc h hn hst).imp fun v σ H Q zpat=>by
  obtain⟨hid,H0,ρ,ow,d,ρ',E,D,hS,k⟩:=zpat
  cases d with
  | tuple ds=>
   rw[ey] at hS
   split at hS
   ·rename_i hl
    obtain⟨a,vs,rfl,q,r⟩:=nQ D
    exact⟨a,vs,rfl,(bA _ _).tup q,by rw[r.length];exact hl,hid,H0,ρ,ow,ds,ρ',E,r,hS,k⟩
   ·exact L2.aQ hS
  | _=>exact L2.aQ hS
end
structure fO (K:PySem.W.Frag)(J:It)(G:Hp)(ds:List PyData):Prop where
 go:∀ H2 i,aj G H2->i<ds.length->J.go i H2
 yld:∀ H2 i x H3 d,aj G H2->ds[i]?=some d->J.yld i H2 x H3->(H3=H2∧az K G x d)∨∃ p vs es,H2 p=none∧H3=upd H2 p (.tup vs)∧x=.ref p∧d=.tuple es∧ar K G vs es
 stop:∀ H2,aj G H2->J.stop ds.length H2
def tE (K:PySem.W.Frag)(O:Ow)(f:aa->Option (List PyData)):TI:=fun σ H R=>dk K O f σ H fun hid H0 ρ ow ds=>∀ J H',aj H H'->fO K J (ah H' hid) ds->R J H'
def JG (K:PySem.W.Frag)(O:Ow)(f:aa->Option (List PyData)):TI:=fun σ H R=>dk K O f σ H fun hid H0 ρ ow ds=>∀ J H',aj H H'->fO K J (ah H' (uni hid ow)) ds->R J H'
abbrev lq (X:Cx)(O:Ow)(tg iter:Expr)(f:aa->Option (List PyData)):Prop:=PI X tg iter (tE X.K O f)
abbrev gR (X:Cx)(O:Ow)(tg iter:Expr)(f:aa->Option (List PyData)):Prop:=PI X tg iter (JG X.K O f)
theorem wJ {K:PySem.W.Frag}{G:Hp}{a:Addr}{xs:List V}{ds:List PyData}(q:aN K G a xs)(r:ar K G xs ds):fO K (qc K a) G ds where
 go:=fun H2 i s h=>by
  have hl:i<xs.length:=by rw[r.length];exact h
  exact ⟨xs,xs[i],s.seq q,(by simp[hl])⟩
 yld:=fun H2 i x H3 d s h y=>by
  revert y
  refine fun zqq=>L2.kv zqq fun zq0 y=>?_
  clear zqq
  subst zq0
  obtain⟨v,h1,h2⟩:=r.get h
  have:=y xs (s.seq q)
  rw[h1] at this
  obtain rfl:=Option.some.inj this
  exact .inl ⟨rfl,h2⟩
 stop:=fun H2 s=>⟨xs,s.seq q,by rw[r.length];exact Nat.le_refl _⟩
def dR (lo:Int)(n:Nat):List PyData:=(List.range n).map fun i=>.int (lo+(i:Nat))
theorem Dm {K:PySem.W.Frag}{G:Hp}(lo:Int)(n:Nat):fO K (mR lo n) G (dR lo n) where
 go:=fun H2 i s h=>by
  have:i<n:=by simpa [dR] using h
  exact this
 yld:=fun H2 i x H3 d s h y=>by
  revert y
  refine fun zqq=>L2.kv zqq fun zq0 zq1=>?_
  clear zqq
  subst zq0
  subst zq1
  have:i<n∧PyData.int (lo+i)=d:=by
   unfold dR at h
   rw[List.getElem?_map] at h
   cases e:(List.range n)[i]? with
   | none=>rw[e] at h;cases h
   | some j=>
    rw[e] at h
    obtain⟨h1,h2⟩:=List.getElem?_eq_some_iff.mp e
    have h3:i=j:=by simpa using h2
    subst h3
    exact⟨by simpa using h1,Option.some.inj h⟩
  rw[← this.2]
  exact .inl ⟨rfl,.int _⟩
 stop:=fun H2 s=>by
  show n≤(dR lo n).length
  simp[dR]
section
variable {X:Cx}{O:Ow}{pos p:Pos}{tg e:Expr}{f:aa->Option PyData}
theorem iV (h:PR X O e f):lq X O tg e (fun ρ=>(f ρ).bind br):=(yM h).imp fun σ H R zpat=>by
 obtain⟨hid,H0,ρ,ow,ds,E,hf,k⟩:=zpat
 obtain⟨d,h1,h2⟩:=bind_some hf
 rw[fD h2] at h1
 refine⟨hid,H0,ρ,ow,_,E,h1,fun v H' s D=>?_⟩
 obtain⟨a,xs,rfl,q,r⟩:=df D
 exact⟨a,rfl,⟨xs,(bA _ _).seq q⟩,k _ H' s (wJ q r)⟩
theorem oi (h:PV X O e f):gR X O tg e (fun ρ=>(f ρ).bind br):=(yM h).imp fun σ H R zpat=>by
 obtain⟨hid,H0,ρ,ow,ds,E,hf,k⟩:=zpat
 obtain⟨d,h1,h2⟩:=bind_some hf
 rw[fD h2] at h1
 refine⟨hid,H0,ρ,ow,_,E,h1,fun v H' s D=>?_⟩
 obtain⟨a,xs,rfl,q,r⟩:=df D
 exact⟨a,rfl,⟨xs,(bA _ _).seq q⟩,k _ H' s (wJ q r)⟩
def i5 (ds:List PyData):Option (List PyData):=(one ds).bind fun d=>(dh d).bind fun j=>if decide (j.natAbs<2 ^ 61)=true then some (dR 0 j.toNat) else none
theorem ER {j:Int}(h:j.natAbs<2 ^ 61):-(2 ^ 62)≤j∧j<2 ^ 62:=by omega
variable {a b:Expr}{fs:aa->Option (List PyData)}
theorem Ie {ds es:List PyData}(h:i5 ds=some es):∃ j,ds=[.int j]∧-(2 ^ 62)≤j∧j<2 ^ 62∧es=dR 0 j.toNat:=by
 obtain⟨d,h1,g1⟩:=bind_some h
 obtain⟨j,h2,g2⟩:=bind_some g1
 obtain rfl:=oz h1
 obtain rfl:=h_ h2
 split at g2
 ·rename_i hc
  have hc':=ER (of_decide_eq_true hc)
  exact⟨j,rfl,hc'.1,hc'.2,(Option.some.inj g2).symm⟩
 ·exact L2.aQ g2
theorem xh (hg:Gl X "range")(hm:X.mg "range"=none)(ha:fj X O [a] fs)(hs:starEach [a] X.env=[(false,eval a X.env)]:=by rfl):gR X O tg (.Call (.Name "range" p) [a] [] pos) (fun ρ=>(fs ρ).bind i5):=
 (GP hg hm ha hs).imp fun σ H R zpat=>by
  obtain⟨hid,H0,ρ,ow,ds,E,hf,k⟩:=zpat
  obtain⟨es,h1,h2⟩:=bind_some hf
  obtain⟨j,zq1,h3,h4,zq4⟩:=Ie h2
  subst zq1
  subst zq4
  refine⟨hid,H0,ρ,ow,_,E,h1,fun vs H' s D=>?_⟩
  obtain⟨v,zq1,D1⟩:=l6 D
  subst zq1
  exact⟨j,by rw[eI D1],h3,h4,k _ H' s (Dm 0 j.toNat)⟩
end
theorem fO.mono {K:PySem.W.Frag}{J:It}{G G':Hp}{ds:List PyData}(h:fO K J G ds)(s:aj G G'):fO K J G' ds where
 go:=fun H2 i e hi=>h.go H2 i (s.trans e) hi
 yld:=fun H2 i x H3 d e hd y=>by
  rcases h.yld H2 i x H3 d (s.trans e) hd y with ⟨a,b⟩ | ⟨p,vs,es,a,b,c,d',e'⟩
  ·exact .inl ⟨a,b.mono s⟩
  ·exact .inr ⟨p,vs,es,a,b,c,d',e'.mono s⟩
 stop:=fun H2 e=>h.stop H2 (s.trans e)
theorem fO.step {K:PySem.W.Frag}{J:It}{G H2 H3:Hp}{ds:List PyData}{P:Addr->Prop}{i:Nat}{x:V}{d:PyData}(Gd:fO K J G ds)(into:aj G (ah H2 P))(np:∀ p,H2 p=none->¬ P p)(hd:ds[i]?=some d)(y:J.yld i H2 x H3):aj H2 H3∧az K (ah H3 P) x d:=by
 rcases Gd.yld H2 i x H3 d (into.trans (bA _ _)) hd y with ⟨rfl,Dx⟩ | ⟨p,vs,es,hp,rfl,rfl,hde,De⟩
 ·exact⟨aj.refl _,Dx.mono into⟩
 ·refine⟨bK hp,?_⟩
  rw[hde]
  exact .tup (cn.of (by rw[bb (np p hp),bC])) ((De.mono into).mono (aY (bK hp) _))
inductive fg (ds:List PyData)(i m:Nat)(rest:List PyData):Prop
 | mk (pre:List PyData) (e:ds=pre++rest) (hi:pre.length=i) (hm:rest.length=m):fg ds i m rest
theorem fg.start (ds:List PyData):fg ds 0 ds.length ds:=⟨[],rfl,rfl,rfl⟩
theorem fg.fin {ds:List PyData}{i m:Nat}(h:fg ds i m []):i=ds.length:=by
 cases h with
 | mk pre e hi hm=>rw[e,List.append_nil,hi]
theorem fg.cut {ds:List PyData}{i m:Nat}{d:PyData}{r:List PyData}(h:fg ds i m (d::r)):i<ds.length∧ds[i]?=some d∧∃ m',m'<m∧fg ds (i+1) m' r:=by
 cases h with
 | mk pre e hi hm=>
  subst e hi hm
  refine⟨by rw[List.length_append];exact Nat.lt_add_of_pos_right (Nat.zero_lt_succ _),by rw[List.getElem?_append_right (Nat.le_refl _),Nat.sub_self];rfl,r.length,Nat.lt_succ_self _,pre++[d],by rw[List.append_assoc];rfl,by rw[List.length_append];rfl,rfl⟩
theorem gR.raw {X:Cx}{O:Ow}{tg e:Expr}{f:aa->Option (List PyData)}(h:gR X O tg e f):lq X O tg e f:=h.imp fun σ H R ⟨hid,H0,ρ,ow,ds,E,hf,k⟩=>⟨hid,H0,ρ,ow,ds,E,hf,fun J H' s G=>k J H' s (G.mono (fq _ _ _))⟩
abbrev O0:Ow:=⟨[],.cl⟩
def eH (S:PyData->aa->Option aa)(ft:aa->Option Bool)(fe:aa->Option PyData):List PyData->aa->Option (List PyData)
 | [],_=>some []
 | d::r,ρ=>(S d ρ).bind fun ρ1=>(ft ρ1).bind fun c=>if c=true then (fe ρ1).bind fun y=>(eH S ft fe r ρ1).map (y::·) else eH S ft fe r ρ1
def cM (S:PyData->aa->Option aa)(ft:aa->Option Bool)(fe:aa->Option PyData)(x:Option (List PyData))(ρ:aa):Option (List PyData):=x.bind fun ds=>if decide (ds.length≤1000)=true then eH S ft fe ds ρ else none
abbrev ll (X:Cx)(ifs:List Expr)(ft:aa->Option Bool):Prop:=jk X ifs (tT X.K O0 ft)
theorem iT {X:Cx}:ll X [] (fun _=>some true):=fun pins s σ H Q I zpat=>by
 obtain⟨hid,H0,ρ,ow,b,E,hf,k⟩:=zpat
 obtain rfl:=Option.some.inj hf
 exact GS pins s σ H Q I (k H (aj.refl H))
theorem DK {X:Cx}{c:Expr}{ft:aa->Option Bool}(h:eG X O0 c ft):ll X [c] ft:=GU h
def frees (k:Nat)(ix:List Nat)(ρ:aa):aa:=List.replicate k none++ix.map fun i=>(ρ[i]?).join
theorem wA {K:PySem.W.Frag}{O:Ow}{hid hid':Addr->Prop}{H0 H H':Hp}{σ:St}{ρ:aa}{ow:List Addr}(E:aE K O hid H0 σ H ρ ow)(s:aj H H')(hs:aj (ah H hid) (ah H' hid'))(hh:∀ b,hid' b->∃ vs:bP,H' b=some vs.ho)(k:Nat)(ix:List Nat):aE K O0 hid' H (gc k ix σ) H' (frees k ix ρ) []:=by
 refine⟨?_,fun b o e=>(by rw[bb (by simp)];exact s b o e),fun i d _ h=>?_,⟨fun _=>[],fun i t d h=>(by cases h),fun i j p _ h=>(by cases h),fun i p h=>(by cases h)⟩,fun l h=>(by cases h),hh,fun _=>rfl⟩
 ·unfold frees gc
  simp
 ·rw[gF]
  unfold frees at h
  unfold gc
  by_cases hi:i<k
  ·rw[List.getElem?_append_left (by simpa using hi),List.getElem?_replicate,if_pos hi] at h
   cases h
  ·have hj:k≤i:=Nat.le_of_not_lt hi
   rw[List.getElem?_append_right (by simpa using hj),List.getElem?_map] at h
   rw[List.getElem?_append_right (by simpa using hj),List.getElem?_map]
   simp only[List.length_replicate] at h ⊢
   cases q:ix[i - k]? with
   | none=>rw[q] at h;cases h
   | some j=>
    rw[q] at h
    have h':(ρ[j]?).join=some d:=Option.some.inj h
    obtain⟨v,h1,h2⟩:=E.raw (join_some h')
    exact⟨v,by simp[h1],h2.mono hs⟩
theorem aE.updHid {K:PySem.W.Frag}{O:Ow}{hid:Addr->Prop}{H0 H:Hp}{σ:St}{ρ:aa}{ow:List Addr}(E:aE K O hid H0 σ H ρ ow){l:Addr}{ws:List V}(hl:hid l)(h0:H0 l=none):aE K O hid H0 σ (upd H l (.lst ws)) ρ ow:=by
 have ed:ah (upd H l (.lst ws)) (uni hid ow)=ah H (uni hid ow):=iQ (.inl hl)
 have nl:∀ l'∈ow,l'≠l:=fun l' h z=>(E.isl l' h).2 (z▸hl)
 refine⟨E.len,fun b u e=>?_,fun i d hi h=>by rw[ed];exact E.val i d hi h,?_,fun l' h=>?_,fun b hb=>?_,E.emp⟩
 ·have hne:b≠l:=bV e h0
  have q:=E.base b u e
  by_cases hb:b∈ow
  ·rw[de hb] at q;cases q
  ·rw[bb hb] at q ⊢
   rw[aD hne]
   exact q
 ·obtain⟨A,a1,a2,a3⟩:=E.own
  refine⟨A,fun i t d hi h=>?_,a2,a3⟩
  obtain⟨v,q,r⟩:=a1 i t d hi h
  exact⟨v,q,by rw[ed];exact r.mono (aj.refl _) fun p hp o e=>by rw[aD (nl p (a3 i p hp))];exact e⟩
 ·obtain⟨⟨vs,q⟩,n⟩:=E.isl l' h
  exact⟨⟨vs,by rw[aD (nl l' h)];exact q⟩,n⟩
 ·by_cases hne:b=l
  ·subst hne;rw[bC];exact⟨.l _,rfl⟩
  ·rw[aD hne];exact E.ishL b hb
inductive pN (K:PySem.W.Frag)(hid:Addr->Prop)(H H1:Hp)(D:Addr)(S:PyData->aa->Option aa)(ft:aa->Option Bool)(fe:aa->Option PyData)(ds out:List PyData)(i m:Nat)(τ:St)(H2:Hp):Prop
 | mk (ρ2:aa) (ys:List V) (done rest left:List PyData) (hM:fg ds i m left) (E2:aE K O0 (uni hid [D]) H τ H2 ρ2 []) (s2:aj H1 H2) (hy:H2 D=some (.lst ys)) (hd:ar K (ah H2 (uni hid [D])) ys done) (hr:eH S ft fe left ρ2=some rest) (ho:out=done++rest) (hl:done.length≤i):pN K hid H H1 D S ft fe ds out i m τ H2
theorem tM {hid:Addr->Prop}{D b:Addr}(z:uni hid [D] b):hid b∨b=D:=z.imp id List.mem_singleton.mp
theorem vT {K:PySem.W.Frag}{O:Ow}{fi:aa->Option (List PyData)}{S:PyData->aa->Option aa}{ft:aa->Option Bool}{fe:aa->Option PyData}{k:Nat}{ix:List Nat}:∀ σ H Q,tD K O (fun ρ=>cM S ft fe (fi ρ) (frees k ix ρ)) σ H Q->mm (tE K O fi) (tG K O0 S) (tT K O0 ft) (tR K O0 fe) (gc k ix) σ H Q:=fun σ H Q zpat=>by
 obtain⟨hid,H0,ρ,ow,out,E,hf,q⟩:=zpat
 obtain⟨ds,h1,h2⟩:=bind_some hf
 split at h2
 case isFalse=>cases h2
 rename_i hlen
 have hz:ds.length≤1000:=of_decide_eq_true hlen
 clear hf hlen
 refine⟨hid,H0,ρ,ow,ds,E,h1,fun J H1 s1 G D hD=>?_⟩
 clear h1
 have hDH:H D=none:=s1.free hD
 have hDh:uni hid [D] D:=.inr List.mem_cons_self
 refine⟨pN K hid H H1 D S ft fe ds out,⟨ds.length,.mk (frees k ix ρ) [] [] out ds (.start ds) ?_ (bK hD) bC .nil h2 rfl (Nat.le_refl _)⟩,fun i m τ H2 zp=>?_⟩
 ·refine wA E (s1.trans (bK hD)) (ju (s1.trans (bK hD)) hDH fun b z=>tM z) (fun b z=>?_) k ix
  rcases tM z with z | z
  ·obtain⟨vs,e⟩:=E.ishL b z
   exact⟨vs,(s1.trans (bK hD)) _ _ e⟩
  ·rw[z,bC]
   exact⟨.l _,rfl⟩
 ·obtain⟨ρ2,ys,done,rest,left,hM,E2,s2,hy,hd,hr,ho,hdl⟩:=zp
  have into:aj (ah H1 hid) (ah H2 (uni hid [D])):=ju s2 hD fun b z=>tM z
  have keep:aj (ah H1 hid) H2:=into.trans (bA _ _)
  cases left with
  | nil=>
   obtain rfl:=hM.fin
   rw[eH] at hr
   obtain rfl:=Option.some.inj hr
   rw[List.append_nil] at ho
   subst ho
   exact .inl ⟨G.stop H2 keep,q D ys H2 (s1.trans s2) hDH hy hd⟩
  | cons d r=>
   obtain⟨hlt,hdi,m',hm',hM'⟩:=hM.cut
   rw[eH] at hr
   obtain⟨ρ3,g1,hr⟩:=bind_some hr
   obtain⟨c,g2,hr⟩:=bind_some hr
   refine .inr ⟨G.go H2 i keep hlt,pN K hid H H1 D S ft fe ds out (i+1) m',fun τ' H' z=>⟨m',hm',z⟩,fun x H3 y=>?_⟩
   obtain⟨s23,Dx⟩:=G.step into (fun p hp z=>E2.fresh hp (.inl z)) hdi y
   rw[← gF (uni hid [D])] at Dx
   refine⟨uni hid [D],H,ρ2,[],d,ρ3,E2.mono s23,Dx,g1,fun τ3 E3=>⟨uni hid [D],H,ρ3,[],c,E3,g2,fun H5 s5=>?_⟩⟩
   have sA:aj H2 H5:=s23.trans s5
   clear Dx g1 g2 y
   cases c with
   | false=>
    dsimp only
    rw[if_neg Bool.false_ne_true] at hr ⊢
    exact .mk ρ3 ys done rest r hM' (E3.mono s5) (s2.trans sA) (sA _ _ hy) (hd.mono (aY sA _)) hr ho (Nat.le_succ_of_le hdl)
   | true=>
    dsimp only
    rw[if_pos rfl] at hr ⊢
    obtain⟨yv,g3,hr⟩:=bind_some hr
    obtain⟨rest2,g4,rfl⟩:=map_some hr
    refine⟨uni hid [D],H,ρ3,[],yv,E3.mono s5,g3,fun y H6 s6 Dy=>?_⟩
    have sB:aj H2 H6:=sA.trans s6
    refine⟨ys,sB _ _ hy,?_,.mk ρ3 (ys++[y]) (done++[yv]) rest2 r hM' (((E3.mono s5).mono s6).updHid hDh hDH) (fun b o e=>?_) bC ?_ g4 ?_ ?_⟩
    ·rw[hd.length]
     exact Nat.lt_of_le_of_lt hdl (Nat.lt_of_lt_of_le hlt (Nat.le_trans hz (by decide)))
    ·rw[aD (bV e hD)]
     exact sB b o (s2 b o e)
    ·rw[iQ hDh]
     exact (hd.mono (aY sB _)).append (.cons Dy .nil)
    ·rw[ho,List.append_assoc];rfl
    ·rw[List.length_append]
     exact Nat.succ_le_succ hdl
theorem ki {X:Cx}{O:Ow}{elt tg iter:Expr}{ifs:List Expr}{scope:Scope}{pos:Pos}{fi:aa->Option (List PyData)}{S:PyData->aa->Option aa}{ft:aa->Option Bool}{fe:aa->Option PyData}{k:Nat}{N:List Str}{ix:List Nat}(sc:Scope)(hsc:X.env.scope=sc)(C:gG sc X.N scope k N ix)
  (hx:X.xe=fun _ _=>False) (hc:X.calm=true) (hi:lq X O tg iter fi)
  (hg:∀ cl C s3 H3 fp pins,gj (cu X N scope cl C s3 H3 fp pins) O0 tg S) (ht:∀ cl C s3 H3 fp pins,ll (cu X N scope cl C s3 H3 fp pins) ifs ft) (he:∀ cl C s3 H3 fp pins,PR (cu X N scope cl C s3 H3 fp pins) O0 elt fe)
  (hs:∀ x,foldedSetIterable iter X.env x=pure x:=by intro _;rfl) :
  aP X O (.ListComp elt [⟨tg,iter,ifs,0⟩] scope pos) (fun ρ=>cM S ft fe (fi ρ) (frees k ix ρ)):=by
 exact (yG (g:=tG X.K O0 S) (tc:=tT X.K O0 ft) (te:=tR X.K O0 fe) sc hsc C hx hc hi hg ht he hs).imp vT
inductive aq where
 | nx (ρ:aa) | rt (d:PyData) | bk (ρ:aa) | ct (ρ:aa)
def nv (K:PySem.W.Frag)(O:Ow)(hid:Addr->Prop)(H0 G:Hp)(D:eV):aq->Prop
 | .nx ρ'=>∀ σ' H' ow',aj G (ah H' (uni hid ow'))->aE K O hid H0 σ' H' ρ' ow'->D.nx σ' H'
 | .bk ρ'=>∀ σ' H' ow',aj G (ah H' (uni hid ow'))->aE K O hid H0 σ' H' ρ' ow'->D.bk σ' H'
 | .ct ρ'=>∀ σ' H' ow',aj G (ah H' (uni hid ow'))->aE K O hid H0 σ' H' ρ' ow'->D.ct σ' H'
 | .rt d=>∀ v as H',aj H0 H'->(∀ p∈as,H0 p=none)->a_ K H' (ah H' (uni hid as)) O.r v d as->D.rt v H'
def tP (K:PySem.W.Frag)(O:Ow)(F:aa->Option aq):TS:=fun D σ H=>dk K O F σ H fun hid H0 ρ ow o=>nv K O hid H0 (ah H (uni hid ow)) D o
abbrev c_ (X:Cx)(O:Ow)(st:Stmt)(F:aa->Option aq):Prop:=PS X st (tP X.K O F)
abbrev eF (X:Cx)(O:Ow)(st:List Stmt)(F:aa->Option aq):Prop:=cT X st (tP X.K O F)
theorem nv.weak {K:PySem.W.Frag}{O:Ow}{hid:Addr->Prop}{H0 G G':Hp}{D:eV}{o:aq}(s:aj G G')(h:nv K O hid H0 G D o):nv K O hid H0 G' D o:=by
 cases o with
 | nx ρ=>exact fun σ' H' ow' s' E=>h σ' H' ow' (s.trans s') E
 | bk ρ=>exact fun σ' H' ow' s' E=>h σ' H' ow' (s.trans s') E
 | ct ρ=>exact fun σ' H' ow' s' E=>h σ' H' ow' (s.trans s') E
 | rt d=>exact h
theorem aE.baseS {K:PySem.W.Frag}{O:Ow}{hid:Addr->Prop}{H0 H:Hp}{σ:St}{ρ:aa}{ow:List Addr}(E:aE K O hid H0 σ H ρ ow):aj H0 H:=E.base.trans (bA _ _)
def av (F G:aa->Option aq)(ρ:aa):Option aq:=(F ρ).bind fun o=>match o with
 | .nx ρ'=>G ρ'
 | .rt d=>some (.rt d)
 | .bk ρ'=>some (.bk ρ')
 | .ct ρ'=>some (.ct ρ')
def cA (S:PyData->aa->Option aa)(F:aa->Option aq):List PyData->aa->Option aq
 | [],ρ=>some (.nx ρ)
 | d::r,ρ=>(S d ρ).bind fun ρ1=>(F ρ1).bind fun o=>match o with
  | .nx ρ2=>cA S F r ρ2
  | .ct ρ2=>cA S F r ρ2
  | .bk ρ2=>some (.nx ρ2)
  | .rt v=>some (.rt v)
def ax (i:Nat)(ρ:aa)(x:Option PyData):Option aq:=x.map fun d=>.nx (ρ.set i (some d))
def kG (i:Nat)(ρ:aa)(x:Option (List PyData)):Option aq:=x.map fun ds=>.nx (ρ.set i (some (.list ds)))
def eJ (ρ:aa)(x:Option PyData):Option aq:=x.map fun _=>.nx ρ
def lA (S:PyData->aa->Option aa)(ρ:aa)(x:Option PyData):Option aq:=x.bind fun d=>(S d ρ).map .nx
def ej (S:PyData->aa->Option aa)(F:aa->Option aq)(x:Option (List PyData))(ρ:aa):Option aq:=x.bind fun ds=>cA S F ds ρ
def cQ (t:aa->Option Bool)(F:aa->Option aq):Nat->aa->Option aq
 | 0,_=>none
 | n+1,ρ=>(t ρ).bind fun c=>if c=true then (F ρ).bind fun o=>match o with
  | .nx ρ2=>cQ t F n ρ2
  | .ct ρ2=>cQ t F n ρ2
  | .bk ρ2=>some (.nx ρ2)
  | .rt v=>some (.rt v) else some (.nx ρ)
section
variable {X:Cx}{O:Ow}{st:Stmt}{rest:List Stmt}{F G:aa->Option aq}{e:Expr}{f:aa->Option PyData}{pos:Pos}
theorem cJ:eF X O [] (fun ρ=>some (.nx ρ)):=yX.imp fun D σ H zpat=>by
 obtain⟨hid,H0,ρ,ow,o,E,hf,k⟩:=zpat
 obtain rfl:=Option.some.inj hf
 exact k σ H ow (aj.refl _) E
theorem aH (h1:c_ X O st F)(h2:eF X O rest G):eF X O (st::rest) (av F G):=(si h1 h2).imp fun D σ H zpat=>by
 obtain⟨hid,H0,ρ,ow,o,E,hf,k⟩:=zpat
 obtain⟨o1,g1,g2⟩:=bind_some hf
 refine⟨hid,H0,ρ,ow,o1,E,g1,?_⟩
 cases o1 with
 | nx ρ1=>exact fun σ' H' ow' s' E'=>⟨hid,H0,ρ1,ow',o,E',g2,by cases o <;> exact k.weak s'⟩
 | rt d=>cases g2;exact k
 | bk ρ1=>cases g2;exact k
 | ct ρ1=>cases g2;exact k
theorem aV (h1:c_ X O st F):eF X O [st] F:=yY h1
theorem bJ (h:PR X O e f)(hr:O.r=.cl:=by rfl):c_ X O (.Return (some e) pos) (fun ρ=>(f ρ).map .rt):=(yW h).imp fun D σ H zpat=>by
 obtain⟨hid,H0,ρ,ow,o,E,hf,k⟩:=zpat
 obtain⟨d,g1,rfl⟩:=map_some hf
 exact⟨hid,H0,ρ,ow,d,E,g1,fun v H' s Dv=>k v [] H' (E.baseS.trans s) (fun p hp=>by cases hp) (by rw[hr,gF];exact .cl Dv)⟩
theorem oO {U:List Nat}(h:m8 X O U O.r e f):c_ X O (.Return (some e) pos) (fun ρ=>(f ρ).map .rt):=(yW h).imp fun D σ H zpat=>by
 obtain⟨hid,H0,ρ,ow,o,E,hf,k⟩:=zpat
 obtain⟨d,g1,rfl⟩:=map_some hf
 obtain⟨A,EA⟩:=E.own
 refine ⟨hid,H0,ρ,ow,d,A,E,EA,g1,(fun v as H' s n Dv=>k v as H' (E.baseS.trans s) (fun p hp=>?_) (Dv.mono (fR (tN fun p hp=>List.mem_append_left _ hp)) fun p _ o e=>e))⟩
 rcases n p hp with z | ⟨i,_,z⟩
 ·exact E.baseS.free z
 ·exact E.ow0 (EA.2.2 i p z)
theorem cD {c:Expr}{a b:List Stmt}{ft:aa->Option Bool}(hc:eG X O c ft)(ha:eF X O a F)(hb:eF X O b G):c_ X O (.If c a b pos) (fun ρ=>aA (ft ρ) (F ρ) (G ρ)):=(yV hc ha hb).imp fun D σ H zpat=>by
 obtain⟨hid,H0,ρ,ow,o,E,hf,k⟩:=zpat
 obtain⟨c,g1,g2⟩:=bind_some hf
 refine⟨hid,H0,ρ,ow,c,E,g1,fun H' s=>?_⟩
 cases c with
 | true=>rw[if_pos rfl] at g2 ⊢;exact⟨hid,H0,ρ,ow,o,E.mono s,g2,k.weak (aY s _)⟩
 | false=>rw[if_neg Bool.false_ne_true] at g2 ⊢;exact⟨hid,H0,ρ,ow,o,E.mono s,g2,k.weak (aY s _)⟩
theorem dS {i:Nat}{x:Str}{pos':Pos}(hN:X.N.Nodup)(hi:X.N[i]?=some x)(hx:Loc X.env.scope x)(he:PV X O e f)(hO:O.s.lookup i=none:=by rfl)(hs:swapsWith e (some (.Name x pos')) pos.line X.env=pure false:=by rfl)(hf:X.fn x=true∨X.env.scope.names.lookup x=some .local:=by first | exact .inl rfl | exact .inr rfl | assumption) :
  c_ X O (.Assign [.Name x pos'] e pos) (fun ρ=>ax i ρ (f ρ)):=(sh hN hi hx he hs hf).imp fun D σ H zpat=>by
 obtain⟨hid,H0,ρ,ow,o,E,hf,k⟩:=zpat
 obtain⟨d,g1,rfl⟩:=map_some hf
 exact⟨hid,H0,ρ,ow,d,E,g1,fun v H' s Dv=>k _ H' ow (aY s _) ((E.mono s).set hO Dv)⟩
theorem IF {i:Nat}{x:Str}{pos':Pos}{T:Ty}(hN:X.N.Nodup)(hi:X.N[i]?=some x)(hx:Loc X.env.scope x)(he:dJ X O T e f)(hO:O.s.lookup i=some T:=by rfl)(hs:swapsWith e (some (.Name x pos')) pos.line X.env=pure false:=by rfl)(hf:X.fn x=true∨X.env.scope.names.lookup x=some .local:=by first | exact .inl rfl | exact .inr rfl | assumption) :
  c_ X O (.Assign [.Name x pos'] e pos) (fun ρ=>ax i ρ (f ρ)):=(sh hN hi hx he hs hf).imp fun D σ H zpat=>by
 obtain⟨hid,H0,ρ,ow,o,E,hf,k⟩:=zpat
 obtain⟨d,g1,rfl⟩:=map_some hf
 refine⟨hid,H0,ρ,ow,d,E,g1,fun v as H' s n Dv=>k _ H' (as++ow) ?_ (E.setT s hO n Dv)⟩
 intro b u z
 by_cases hb:uni hid ow b
 ·rw[de hb] at z;cases z
 ·rw[bb hb] at z
  rw[bb fun y=>?_]
  ·exact s b u z
  ·rcases y with y | y
   ·exact hb (.inl y)
   ·rcases List.mem_append.mp y with y | y
    ·rw[n b y] at z;cases z
    ·exact hb (.inr y)
theorem oP {i:Nat}{x:Str}{pos':Pos}{f:aa->Option (List PyData)}(hN:X.N.Nodup)(hi:X.N[i]?=some x)(hx:Loc X.env.scope x)(he:bL X O e f)(hO:O.s.lookup i=some (.lst .cl):=by rfl)(hs:swapsWith e (some (.Name x pos')) pos.line X.env=pure false:=by rfl)(hf:X.fn x=true∨X.env.scope.names.lookup x=some .local:=by first | exact .inl rfl | exact .inr rfl | assumption) :
  c_ X O (.Assign [.Name x pos'] e pos) (fun ρ=>kG i ρ (f ρ)):=(IF hN hi hx he.ft hO hs hf).imp fun D σ H zpat=>by
 obtain⟨hid,H0,ρ,ow,o,E,hf,k⟩:=zpat
 refine⟨hid,H0,ρ,ow,o,E,?_,k⟩
 obtain⟨d,g1,rfl⟩:=map_some hf
 show ax i ρ ((f ρ).map .list)=_
 rw[g1]
 rfl
theorem IB {tg:Expr}{S:PyData->aa->Option aa}(he:PV X O e f)(hg:gj X O tg S)(hs:swapsWithSole [tg] e pos.line X.env=pure false:=by rfl)(hw:swappedStores [tg] e X.env=pure none:=by rfl)(h1:(assignEach [tg] X.env).map (·.2)=[assign tg X.env]:=by rfl) :
  c_ X O (.Assign [tg] e pos) (fun ρ=>lA S ρ (f ρ)):=(Hc he hg hs hw h1).imp fun D σ H zpat=>by
 obtain⟨hid,H0,ρ,ow,o,E,hf,k⟩:=zpat
 obtain⟨d,g1,g2⟩:=bind_some hf
 obtain⟨ρ',g3,rfl⟩:=map_some g2
 exact⟨hid,H0,ρ,ow,d,E,g1,fun v H' s Dv=>⟨hid,H0,ρ,ow,d,ρ',E.mono s,Dv,g3,fun σ' E'=>k σ' H' ow (aY s _) E'⟩⟩
inductive pV (K:PySem.W.Frag)(O:Ow)(hid:Addr->Prop)(H0 G1:Hp)(S:PyData->aa->Option aa)(F:aa->Option aq)(ds:List PyData)(out:aq)(i m:Nat)(τ:St)(H2:Hp):Prop
 | mk (ρ2:aa) (ow2:List Addr) (left:List PyData) (hM:fg ds i m left) (E2:aE K O hid H0 τ H2 ρ2 ow2) (s2:aj G1 (ah H2 (uni hid ow2))) (hr:cA S F left ρ2=some out):pV K O hid H0 G1 S F ds out i m τ H2
theorem jF {tg iter:Expr}{body:List Stmt}{fi:aa->Option (List PyData)}{S:PyData->aa->Option aa}(hc:X.calm=true)(hi:gR X O tg iter fi)(hg:gj X O tg S)(hb:eF X O body F)(hp:PassesOwn (model X.prog X.w) X.A X.env X.xe)
  (hs:∀ x,foldedSetIterable iter X.env x=pure x:=by intro _;rfl):c_ X O (.For tg iter body [] pos) (fun ρ=>ej S F (fi ρ) ρ):=(yU hp hc hi hg hb hs).imp fun D σ H zpat=>by
 obtain⟨hid,H0,ρ,ow,out,E,hf,k⟩:=zpat
 obtain⟨ds,g1,g2⟩:=bind_some hf
 refine⟨hid,H0,ρ,ow,ds,E,g1,fun J H1 s1 Gd=>?_⟩
 have k1:=k.weak (aY s1 (uni hid ow))
 clear k hf g1
 refine⟨pV X.K O hid H0 (ah H1 (uni hid ow)) S F ds out,⟨ds.length,.mk ρ ow ds (.start ds) (E.mono s1) (aj.refl _) g2⟩,fun i m τ H2 zp=>?_⟩
 obtain⟨ρ2,ow2,left,hM,E2,s2,hr⟩:=zp
 have keep:aj (ah H1 (uni hid ow)) H2:=s2.trans (bA _ _)
 cases left with
 | nil=>
  obtain rfl:=hM.fin
  rw[cA] at hr
  obtain rfl:=Option.some.inj hr
  exact .inl ⟨Gd.stop H2 keep,k1 τ H2 ow2 s2 E2⟩
 | cons d r=>
  obtain⟨hlt,hdi,m',hm',hM'⟩:=hM.cut
  rw[cA] at hr
  obtain⟨ρ3,g3,hr⟩:=bind_some hr
  obtain⟨o3,g4,hr⟩:=bind_some hr
  refine .inr ⟨Gd.go H2 i keep hlt,pV X.K O hid H0 (ah H1 (uni hid ow)) S F ds out (i+1) m',fun τ' H' z=>⟨m',hm',z⟩,fun x H3 y=>?_⟩
  obtain⟨s23,Dx⟩:=Gd.step s2 (fun p hp=>E2.fresh hp) hdi y
  refine⟨hid,H0,ρ2,ow2,d,ρ3,E2.mono s23,Dx,g3,fun τ3 E3=>⟨hid,H0,ρ3,ow2,o3,E3,g4,?_⟩⟩
  have s13:aj (ah H1 (uni hid ow)) (ah H3 (uni hid ow2)):=s2.trans (aY s23 _)
  cases o3 with
  | nx ρ4=>exact fun σ' H' ow' s' E'=>.mk ρ4 ow' r hM' E' (s13.trans s') hr
  | ct ρ4=>exact fun σ' H' ow' s' E'=>.mk ρ4 ow' r hM' E' (s13.trans s') hr
  | bk ρ4=>
   obtain rfl:=Option.some.inj hr
   exact fun σ' H' ow' s' E'=>k1 σ' H' ow' (s13.trans s') E'
  | rt d=>
   obtain rfl:=Option.some.inj hr
   exact k1
theorem oQ {c:Expr}{body:List Stmt}{ft:aa->Option Bool}(μ:aa->Nat)(hc:eG X O c ft)(hb:eF X O body F)(hp:PassesOwn (model X.prog X.w) X.A X.env X.xe):c_ X O (.While c body [] pos) (fun ρ=>cQ ft F (μ ρ) ρ):=(Hh hp hc hb).imp fun D σ H zpat=>by
 obtain⟨hid,H0,ρ,ow,out,E,hf,k⟩:=zpat
 refine⟨fun m τ H2=>∃ ρ2 ow2,aE X.K O hid H0 τ H2 ρ2 ow2∧aj (ah H (uni hid ow)) (ah H2 (uni hid ow2))∧cQ ft F m ρ2=some out,⟨_,ρ,ow,E,aj.refl _,hf⟩,?_⟩
 rintro m τ H2 ⟨ρ2,ow2,E2,s2,hr⟩
 cases m with
 | zero=>exact L2.aQ hr
 | succ m=>
  rw[cQ] at hr
  obtain⟨b,g1,hr⟩:=bind_some hr
  refine⟨hid,H0,ρ2,ow2,b,E2,g1,fun H3 s3=>?_⟩
  have s13:aj (ah H (uni hid ow)) (ah H3 (uni hid ow2)):=s2.trans (aY s3 _)
  cases b with
  | false=>
   dsimp only
   rw[if_neg Bool.false_ne_true] at hr ⊢
   obtain rfl:=Option.some.inj hr
   exact k τ H3 ow2 s13 (E2.mono s3)
  | true=>
   dsimp only
   rw[if_pos rfl] at hr ⊢
   obtain⟨o3,g4,hr⟩:=bind_some hr
   refine⟨fun τ' H'=>∃ ρ2 ow2,aE X.K O hid H0 τ' H' ρ2 ow2∧aj (ah H (uni hid ow)) (ah H' (uni hid ow2))∧cQ ft F m ρ2=some out,fun τ' H' z=>⟨m,Nat.lt_succ_self m,z⟩,hid,H0,ρ2,ow2,o3,E2.mono s3,g4,?_⟩
   cases o3 with
   | nx ρ4=>exact fun σ' H' ow' s' E'=>⟨ρ4,ow',E',s13.trans s',hr⟩
   | ct ρ4=>exact fun σ' H' ow' s' E'=>⟨ρ4,ow',E',s13.trans s',hr⟩
   | bk ρ4=>
    obtain rfl:=Option.some.inj hr
    exact fun σ' H' ow' s' E'=>k σ' H' ow' (s13.trans s') E'
   | rt d=>
    obtain rfl:=Option.some.inj hr
    exact k
def Jw (K:PySem.W.Frag)(O:Ow)(i:Nat)(T:Ty)(fp:aa->Option (List Int)):TE:=fun σ H Q=>∃ hid H0 ρ ow d path ds,aE K O hid H0 σ H ρ ow∧ρ[i]?=some (some d)∧fp ρ=some path∧ir T d path=true∧kl d path=some ds ∧
 ∀ H1 l vs,aj H H1->H1 l=some (.lst vs)->ar K (ah H1 (uni hid ow)) vs ds->l∈ow ->
  (∀ H2,aj H1 H2->∀ ws es,ar K (ah H2 (uni hid ow)) ws es->aE K O hid H0 σ (upd H2 l (.lst ws)) (ρ.set i (some (il d path es))) ow)->Q (.ref l) H1
abbrev uH (X:Cx)(O:Ow)(i:Nat)(T:Ty)(e:Expr)(fp:aa->Option (List Int)):Prop:=PE X e (Jw X.K O i T fp)
theorem vj {i:Nat}(h:PE X e (fG i))(hi:O.s.lookup i=some (.lst .cl):=by rfl):uH X O i (.lst .cl) e (fun _=>some []):=h.imp fun σ H Q zpat=>by
 obtain⟨hid,H0,ρ,ow,d,path,ds,E,hρ,hp,ht,hg,k⟩:=zpat
 obtain rfl:=Option.some.inj hp
 obtain rfl:=Dj hg
 obtain⟨l,vs,h1,h3,h4,h5,h6⟩:=E.at0 hi hρ
 exact⟨.ref l,h1,k H l vs (aj.refl H) h3 h4 h5 h6⟩
def vc (i:Nat)(T:Ty)(ρ:aa)(path:Option (List Int))(d:PyData):Option aq:=path.bind fun p=>((ρ[i]?).join).bind fun t=>if ir T t p=true then (kl t p).bind fun ds=>if decide (ds.length<1000)=true then some (.nx (ρ.set i (some (il t p (ds++[d]))))) else none else none
theorem IA {i:Nat}{T:Ty}{x:Expr}{fp:aa->Option (List Int)}{apos cpos:Pos}(hx:uH X O i T x fp)(he:PV X O e f)
  (hbase:attributeBase x "append" X.env (eval x X.env)=eval x X.env:=by rfl)
  (hfew:((backTo cpos (starEach [e] X.env)).all (fun x=>!x.1)&&(backToKw cpos (keywordEach [] X.env)).all (fun x=>x.1.isSome)&&decide ([e].length+([]:List Keyword).length+(if ([]:List Keyword).isEmpty then 0 else 1)<30))=true:=by rfl)
  (hline:(apos.endLine==cpos.line)=true:=by rfl) (hst:starEach [e] X.env=(false,eval e X.env)::starEach [] X.env:=by rfl) (hplain:(backTo cpos (starEach [] X.env)).any (·.1)=false:=by rfl)
  (hs:swapsWith (.Call (.Attribute x "append" apos) [e] [] cpos) none pos.line X.env=pure false:=by rfl) :
  c_ X O (.Expr (.Call (.Attribute x "append" apos) [e] [] cpos) pos) (fun ρ=>(f ρ).bind (vc i T ρ (fp ρ))):=
 (sg (sd PySem.F.plainAttrs_list PySem.F.slot_list_append PySem.F.type_list_append ya hx (pa_cons he pa_nil hst) hbase hfew hline hst hplain) hs).imp fun D σ H zpat=>by
  obtain⟨hid,H0,ρ,ow,o,E,hf,k⟩:=zpat
  obtain⟨d,g1,g2⟩:=bind_some hf
  obtain⟨path,g3,g4⟩:=bind_some g2
  obtain⟨t,g5,g6⟩:=bind_some g4
  split at g6
  case isFalse=>cases g6
  rename_i hty
  obtain⟨ds,g7,g8⟩:=bind_some g6
  split at g8
  case isFalse=>cases g8
  rename_i hlt
  obtain rfl:=Option.some.inj g8
  refine ⟨hid,H0,ρ,ow,t,path,ds,E,join_some g5,g3,hty,g7,(fun H1 l vs s1 hH hD hl hE=>⟨.inl ⟨rfl,vs,aN.of hH⟩,hid,H0,ρ,ow,d,E.mono s1,g1,fun v H2 s2 Dv=>?_⟩)⟩
  have hz:1000<sizeLine:=by decide
  have hlt':=of_decide_eq_true hlt
  refine ⟨l,vs,v,rfl,rfl,s2 _ _ hH,(by rw[hD.length];omega),k _ _ ow ?_ (hE H2 s2 _ _ ((hD.mono (aY s2 _)).append (.cons Dv .nil)))⟩
  rw[iQ (pd hl)]
  exact (aY s1 _).trans (aY s2 _)
def iJ (i:Nat)(ρ:aa)(d:PyData):Option aq:=((ρ[i]?).join.bind br).bind fun ds=>if decide (ds.length<1000)=true then some (.nx (ρ.set i (some (.list (ds++[d]))))) else none
theorem oE {i:Nat}{x:Str}{p apos cpos:Pos}(hx:PE X (.Name x p) (fG i))(he:PV X O e f)(hO:O.s.lookup i=some (.lst .cl):=by rfl)
  (hbase:attributeBase (.Name x p) "append" X.env (eval (.Name x p) X.env)=eval (.Name x p) X.env:=by rfl)
  (hfew:((backTo cpos (starEach [e] X.env)).all (fun x=>!x.1)&&(backToKw cpos (keywordEach [] X.env)).all (fun x=>x.1.isSome)&&decide ([e].length+([]:List Keyword).length+(if ([]:List Keyword).isEmpty then 0 else 1)<30))=true:=by rfl)
  (hline:(apos.endLine==cpos.line)=true:=by rfl) (hst:starEach [e] X.env=(false,eval e X.env)::starEach [] X.env:=by rfl) (hplain:(backTo cpos (starEach [] X.env)).any (·.1)=false:=by rfl)
  (hs:swapsWith (.Call (.Attribute (.Name x p) "append" apos) [e] [] cpos) none pos.line X.env=pure false:=by rfl) :
  c_ X O (.Expr (.Call (.Attribute (.Name x p) "append" apos) [e] [] cpos) pos) (fun ρ=>(f ρ).bind (iJ i ρ)):=
 (IA (vj hx hO) he hbase hfew hline hst hplain hs).imp fun D σ H zpat=>by
  obtain⟨hid,H0,ρ,ow,o,E,hf,k⟩:=zpat
  refine⟨hid,H0,ρ,ow,o,E,?_,k⟩
  obtain⟨d,g1,g2⟩:=bind_some hf
  obtain⟨ds,g3,g4⟩:=bind_some g2
  obtain⟨dl,g5,g6⟩:=bind_some g3
  rw[fD g6] at g5
  try dsimp only
  rw[g1,Option.bind_some]
  unfold vc
  rw[Option.bind_some,g5,Option.bind_some]
  exact g4
end
theorem xT:∀ {l:List (Nat×Ty)} {i:Nat} {t:Ty},l.lookup i=some t->i∈l.map (·.1)
 | [],_,_,h=>by cases h
 | (j,u)::r,i,t,h=>by
  rw[List.lookup_cons] at h
  by_cases hj:(i==j)=true
  ·rw[beq_iff_eq] at hj;subst hj;exact List.mem_cons_self
  ·rw[Bool.not_eq_true] at hj
   rw[hj] at h
   exact List.mem_cons_of_mem _ (xT h)
def kX (K:PySem.W.Frag)(f:Addr)(cdv:Value):Prop:=∃ oc od fd osl,K.lookup f=some ⟨oc,od,.func fd,osl⟩∧fd.code=cdv
theorem CV {P:Program}{w:World}{K:PySem.W.Frag}{mg:Str->Option Value}{base:Heap}{x qual:Str}{st:Stmt}{f:Addr}{fd:FuncData}{N ps:List Str}{k:Nat}{sp:Sp}(F:aZ K x qual st f fd)(S:bp N ps (aL st))(len:∀ vs H Q E,sp vs H Q E->vs.length=ps.length)
  (body:∀ cdv,kX K f cdv->∀ A outer s H vs Q E,ba k (A.deeper (envOfC qual (aL st) s.heap.objs.size f cdv))->sp vs H Q E->∃ t,cT (cV bc P w K mg base N qual (aL st) f cdv A outer s H E).nox (cW st) t∧t {nx:=fun _ H'=>Q .non H',rt:=Q} (start N vs) H):aS P w K mg base bc (k+1) f fd ps sp:=by
 obtain⟨a1,a2,a3,a4,a5,a6,cdv,a7,a8,e,lk,hc⟩:=F.ex
 subst e
 exact qZ lk hc S len fun A outer s H vs Q E hr hs=>by
  obtain⟨t,h1,h2⟩:=body cdv ⟨_,_,_,_,lk,rfl⟩ A outer s H vs Q E hr hs
  exact⟨t,h1.nox,h2⟩
theorem zU {K:PySem.W.Frag}{H:Hp}{hid:Addr->Prop}{N:List Str}{vs:List V}{ds:List PyData}(D:ar K (ah H hid) vs ds){i:Nat}{d:PyData}(e:(ds.map some++List.replicate (N.length - ds.length) none)[i]?=some (some d)):i<ds.length∧∃ v,(start N vs)[i]?=some (some v)∧az K (ah H hid) v d:=by
 by_cases hi:i<ds.length
 ·rw[List.getElem?_append_left (by rw[List.length_map];exact hi),List.getElem?_map] at e
  obtain⟨d',q,e⟩:=Option.map_eq_some_iff.mp e
  obtain rfl:=Option.some.inj e
  obtain⟨v,h1,h2⟩:=D.get q
  refine⟨hi,v,?_,h2⟩
  unfold start
  rw[List.getElem?_append_left (by rw[List.length_map,D.length];exact hi),List.getElem?_map,h1]
  rfl
 ·rw[List.getElem?_append_right (by rw[List.length_map];exact Nat.le_of_not_lt hi),List.getElem?_replicate] at e
  split at e <;> cases e
theorem zT {K:PySem.W.Frag}{O:Ow}{H:Hp}{hid:Addr->Prop}{N:List Str}{vs:List V}{ds:List PyData}{n:Nat}(D:ar K (ah H hid) vs ds)(hn:ds.length=n)(hO:∀ i∈O.s.map (·.1),n≤i)(hh:∀ b,hid b->∃ vs:bP,H b=some vs.ho):aE K O hid H (start N vs) H (ds.map some++List.replicate (N.length - ds.length) none) []:=by
 refine⟨by unfold start;rw[List.length_append,List.length_append,List.length_map,List.length_map,List.length_replicate,List.length_replicate,D.length],fun b o e=>by rw[bb List.not_mem_nil];exact e,fun i d hi e=>?_,⟨fun _=>[],fun i t d hi e=>?_,fun i j p _ z=>absurd z List.not_mem_nil,fun i p z=>absurd z List.not_mem_nil⟩,fun l z=>absurd z List.not_mem_nil,hh,fun _=>rfl⟩
 ·obtain⟨_,v,h1,h2⟩:=zU D e
  exact⟨v,h1,by rw[gF];exact h2⟩
 ·exact absurd (hn▸(zU D e).1) (Nat.not_lt.mpr (hO i (xT hi)))
theorem CW {P:Program}{w:World}{K:PySem.W.Frag}{mg:Str->Option Value}{base:Heap}{x qual:Str}{st:Stmt}{f:Addr}{fd:FuncData}{N ps:List Str}{k:Nat}{Fs:List PyData->Option PyData}(O:Ow)(F:aZ K x qual st f fd)(S:bp N ps (aL st))
  (hl:∀ ds r,Fs ds=some r->ds.length=ps.length)
  (hO:∀ i∈O.s.map (·.1),ps.length≤i) (B:aa->Option aq)
  (hbody:∀ (cdv:Value),kX K f cdv->∀ (A:Around) (outer:List Env) (s:Shared) (H:Hp) (E:XK),ba k (A.deeper (envOfC qual (aL st) s.heap.objs.size f cdv)) ->
   eF (cV bc P w K mg base N qual (aL st) f cdv A outer s H E).nox O (cW st) B)
  (hs:∀ ds r,Fs ds=some r->B (ds.map some++List.replicate (N.length - ds.length) none)=some (.rt r)∨(r=.none∧∃ ρ,B (ds.map some++List.replicate (N.length - ds.length) none)=some (.nx ρ))) :
  aS P w K mg base bc (k+1) f fd ps (bB K O.r Fs):=by
 refine CV F S (fun vs H Q E h=>?_) (fun cdv hk A outer s H vs Q E hr h=>?_)
 ·obtain⟨hid,ds,r,_,D,hf,_⟩:=id h
  rw[D.length]
  exact hl ds r hf
 ·obtain⟨hid,ds,r,hh,D,hf,q⟩:=id h
  refine⟨_,hbody cdv hk A outer s H E hr,?_⟩
  have hdl:=D.length
  have hpl:=hl ds r hf
  have E0:aE K O hid H (start N vs) H (ds.map some++List.replicate (N.length - ds.length) none) []:=zT D hpl hO hh
  rcases hs ds r hf with h | ⟨rfl,ρ,h⟩
  ·exact⟨hid,H,_,[],_,E0,h,fun v as H' s' n Dv=>q v as H' s' n Dv⟩
  ·exact⟨hid,H,_,[],_,E0,h,fun σ' H' ow' s' E'=>q .non [] H' E'.baseS (fun p hp=>by cases hp) .non⟩
end L2
namespace L2
variable [Reg]
def jg (K:PySem.W.Frag)(a:Addr):It:=
 ⟨fun i H=>∃ xs x,aN K H a xs∧xs[i]?=some x,fun i H x H'=>∃ p v,H p=none∧H'=upd H p (.tup [.int i,v])∧x=.ref p∧∀ xs,aN K H a xs->xs[i]?=some v,fun i H=>∃ xs,aN K H a xs∧xs.length≤i⟩
theorem J5 {P:Program}{w:World}{K:PySem.W.Frag}{es:List Expr}{x1}{tpos:Pos}(a e it:Addr)(hne:e≠it):j7 P w K (.Tuple es x1 tpos) (jg K a) [e,it] e (fun i h=>(∃ old,IsEnum h e it ((i:Nat):Int) old)∧h.IsListIter it a i) where
 mem:=by simp
 obj:=fun i h st b hb=>by
  obtain⟨⟨old,h1⟩,o,e2,c,d⟩:=st
  rcases List.mem_cons.mp hb with rfl | hb
  ·exact⟨_,h1,fun v z=>by cases (show Data.fields _=Data.cell v from z)⟩
  ·have:b=it:=by simpa using hb
   subst this
   exact⟨o,e2,fun v z=>by rw[d] at z;cases z⟩
 keep:=fun i h h' st k=>by
  obtain⟨⟨old,h1⟩,h2⟩:=st
  exact⟨⟨old,k e (by simp) _ h1⟩,h2.at fun o q=>k it (by simp) o q⟩
 item:=by
  intro X hP hw hK hc i pins s σ H E I hf st hg
  subst hP hw hK
  obtain⟨xs,x,hq,hx⟩:=id hg
  obtain⟨its,rv,p,hz⟩:=I.list hq
  obtain⟨u,hu,ru⟩:=rv.get hx
  obtain⟨⟨old,h1⟩,h2⟩:=st
  obtain⟨f0,f1,f2,f3,f4,f5⟩:=hf e (by simp)
  obtain⟨g0,g1,g2,g3,g4,g5⟩:=hf it (by simp)
  have he:e<s.heap.objs.size:=Heap.lt_size h1
  have hi:it<s.heap.objs.size:=by obtain⟨o,q,_⟩:=id h2;exact Heap.lt_size q
  refine wpAny_pyNext_enum_item h1 h2 p.isList (x:=u) (by simpa using hu) hne fun h' ho hit' hT hsz hk=>?_
  refine⟨_,rfl,wpAny_letOwnedTupleGo_enum (s:={s with heap:=h',toks:=s.toks+1}) ho fun h3 he3 hs3=>?_⟩
  have hs3':Heap.SameBut e h' h3:=hs3
  have hT3:h3.get? s.heap.objs.size=some {cls:=.type "tuple",data:=.seq #[.int i s.toks,u]}:=(hs3'.2 _ (Nat.ne_of_gt he)).trans hT
  have hk3:∀ b o,b∉[e,it]->s.heap.get? b=some o->h3.get? b=some o:=fun b o hb q=>(hs3'.2 b (fun z=>hb (by simp[z]))).trans (hk b o (fun z=>hb (by simp[z])) (fun z=>hb (by simp[z])) q)
  have hfr:H s.heap.objs.size=none:=I.hok.fresh (Nat.le_refl _)
  have nin:∀ b o,H b=some o->b∉[e,it]:=fun b o q hb=>by
   rcases List.mem_cons.mp hb with z | hb
   ·rw[z,f0] at q;cases q
   ·have z:b=it:=by simpa using hb
    rw[z,g0] at q;cases q
  have I3:Inv X pins σ (upd H s.heap.objs.size (.tup [.int i,x])) {s with heap:=h3,toks:=s.toks+1}:=by
   refine I.step (g':=s.gens) (d':=s.drawn) (ch:=[e,it]) (fun b hb=>?_) (fun b o _ _ hb q _=>hk3 b o hb q) (fun b o _ _ hb q _=>⟨o.slots,hk3 b o hb q⟩) (fun b o hb q n=>?_) (fun b o hb q=>⟨o,hk3 b o hb q⟩)
    (fun b ys q=>by rw[aD (bV q hfr)];exact q) (fun b o ys q=>by rw[aD (bV q hfr)];exact q) (fun b ps q=>⟨#[],by rw[aD (bV q hfr),q];simp⟩) (fun b q=>by rw[aD (bV q hfr)];exact q) (fun m hm=>?_) (fun b o q=>?_) I.bare
   ·rcases List.mem_cons.mp hb with rfl | hb
    ·exact⟨f3,f1,f4,f5⟩
    ·have z:b=it:=by simpa using hb
     subst z
     exact⟨g3,g1,g4,g5⟩
   ·rw[aD (Nat.ne_of_lt (Heap.lt_size q))]
    exact n
   ·obtain⟨o,es',ep,ho',r⟩:=id hm
    exact ⟨o,es',ep,(hk3 _ o (by simp[Ne.symm f1,Ne.symm g1]) ho'),r⟩
   ·by_cases hb:b=s.heap.objs.size
    ·subst hb
     rw[bC] at q
     obtain rfl:=Option.some.inj q
     exact⟨(by show 2≤sizeLine;decide),[.int i s.toks,u],.cons ⟨_,rfl⟩ (.cons ru .nil),⟨_,hT3,rfl,_,rfl⟩⟩
    ·rw[aD hb] at q
     refine (I.hok b o q).stay (fun c v hc q'=>hk3 c v ?_ q') (fun c q'=>by rw[aD (bV q' hfr)];exact q') (fun c ys q'=>by rw[aD (bV q' hfr)];exact q') fun c ob ys _ _ q'=>by rw[aD (bV q' hfr)];exact q'
     rcases hc with hc | hc
     ·rw[hc];exact nin b o q
     ·exact nin c _ hc
  refine ⟨.ref s.heap.objs.size,_,I3,rfl,(⟨_,x,hfr,rfl,rfl,fun ys hy=>by rw[I.list_inj hy hq];exact hx⟩),(⟨⟨u,?_⟩,hit'.at fun o q=>(hs3'.2 it (Ne.symm hne)).trans q⟩),(fun b hb=>?_)⟩
  ·have:((i+1:Nat):Int)=(i:Int)+1:=by push_cast;rfl
   rw[this]
   exact he3
  ·rcases List.mem_cons.mp hb with rfl | hb
   ·rw[aD (Nat.ne_of_lt he)];exact f0
   ·have z:b=it:=by simpa using hb
    subst z
    rw[aD (Nat.ne_of_lt hi)];exact g0
 done:=by
  intro X hP hw hK hc i pins s σ H E I hf st hg
  subst hP hw hK
  obtain⟨xs,hq,hx⟩:=id hg
  obtain⟨its,rv,p,hz⟩:=I.list hq
  obtain⟨⟨old,h1⟩,h2⟩:=st
  obtain⟨g0,g1,g2,g3,g4,g5⟩:=hf it (by simp)
  have hl:=rv.length
  exact wpAny_pyNext_enum_end (I.ok.hd hc) h1 h2 p.isList (by simp;omega) fun h' eb=>⟨rfl,I.turned (t':=s.toks) (fun b o hb q=>eb b o hb q) g0 g1 g3 g4 g5⟩
 self:=fun _ _ _ _ _ st h=>wpAny_pyIter_enum st.1.choose_spec h
def DG (K:PySem.W.Frag)(tl:TE):TI:=fun σ H R=>tl σ H fun x H1=>∃ a,x=.ref a∧(∃ xs,aN K H1 a xs)∧R (jg K a) H1
theorem GO {X:Cx}{es:List Expr}{x1}{tpos p pos:Pos}{l:Expr}{tl:TE}(hg:Gl X "enumerate")(hm:X.mg "enumerate"=none)(hl:PE X l tl)(hs:starEach [l] X.env=[(false,eval l X.env)]:=by rfl) :
  PI X (.Tuple es x1 tpos) (.Call (.Name "enumerate" p) [l] [] pos) (DG X.K tl):=by
 intro pins s σ H R I h
 have ha:=pa_cons (X:=X) hl pa_nil hs
 refine Call_ (iX I hg hm PyProof.Rows.boot_enumerate (PyProof.Rows.callWith_type1 (aI (ha pos pins s σ H (fun vs H1=>∃ a,vs=[.ref a]∧(∃ xs,aN X.K H1 a xs)∧R (jg X.K a) H1) I ?_) fun us s1 ⟨vs,H1,I1,r1,q1⟩=>?_) hs rfl))
 ·have mono:∀ (Q Q':VK),True:=fun _ _=>True.intro
  show tl σ H fun x H1=>∃ a,[x]=[.ref a]∧(∃ xs,aN X.K H1 a xs)∧R (jg X.K a) H1
  have e:(fun (x:V) (H1:Hp)=>∃ a,[x]=[V.ref a]∧(∃ xs,aN X.K H1 a xs)∧R (jg X.K a) H1)=fun x H1=>∃ a,x=.ref a∧(∃ xs,aN X.K H1 a xs)∧R (jg X.K a) H1:=by
   funext x H1
   simp
  rw[e]
  exact h
 ·obtain⟨a,rfl,⟨xs,hq⟩,q⟩:=q1
  obtain⟨u,zq1,ru⟩:=r1.one
  subst zq1
  cases ru
  obtain⟨its,rv,pl,hz⟩:=I1.list hq
  refine call_enumerate_list pl.isList fun h' he hit hsz hk=>?_
  refine wpAny_pyIter_enum he ?_
  have I2:Inv X pins σ H1 {s1 with heap:=h' }:=I1.kept (t':=s1.toks) hk
  refine ⟨s1.heap.objs.size+1,([s1.heap.objs.size+1,s1.heap.objs.size]),_,_,H1,rfl,I2,J5 a _ _ (Nat.succ_ne_self _),(⟨⟨_,he⟩,hit⟩),(fun b hb=>?_),q⟩
  have hb':s1.heap.objs.size≤b:=by
   rcases List.mem_cons.mp hb with rfl | hb
   ·exact Nat.le_succ _
   ·have:b=s1.heap.objs.size:=by simpa using hb
    rw[this]
    exact Nat.le_refl _
  exact I1.fpOk hb' (I1.hok.fresh hb')
def dg (ds:List PyData):List PyData:=(List.range ds.length).zipWith (fun i d=>.tuple [.int (i:Nat),d]) ds
theorem qU {ds:List PyData}{i:Nat}{d:PyData}(h:(dg ds)[i]?=some d):∃ e,ds[i]?=some e∧d=.tuple [.int (i:Nat),e]:=by
 unfold dg at h
 rw[List.getElem?_zipWith] at h
 cases q:ds[i]? with
 | none=>rw[q] at h;cases z:(List.range ds.length)[i]? <;> rw[z] at h <;> cases h
 | some e=>
  have hl:=(List.getElem?_eq_some_iff.mp q).1
  rw[q,List.getElem?_range hl] at h
  exact⟨e,rfl,(Option.some.inj h).symm⟩
theorem v_ (ds:List PyData):(dg ds).length=ds.length:=by simp[dg]
theorem Dl {K:PySem.W.Frag}{G:Hp}{a:Addr}{xs:List V}{ds:List PyData}(q:aN K G a xs)(r:ar K G xs ds):fO K (jg K a) G (dg ds) where
 go:=fun H2 i s h=>by
  rw[v_] at h
  have hl:i<xs.length:=by rw[r.length];exact h
  exact ⟨xs,xs[i],s.seq q,(by simp[hl])⟩
 yld:=fun H2 i x H3 d s h y=>by
  obtain⟨e,h1,zq2⟩:=qU h
  subst zq2
  revert y
  refine fun zqq=>L2.jB zqq fun p v hp zq3 zq4 y=>?_
  clear zqq
  subst zq3
  subst zq4
  obtain⟨v',h2,h3⟩:=r.get h1
  have:=y xs (s.seq q)
  rw[h2] at this
  obtain rfl:=Option.some.inj this
  exact .inr ⟨p,_,_,hp,rfl,rfl,rfl,.cons (.int _) (.cons h3 .nil)⟩
 stop:=fun H2 s=>⟨xs,s.seq q,by rw[r.length,v_];exact Nat.le_refl _⟩
theorem rB {X:Cx}{O:Ow}{es:List Expr}{x1}{tpos p pos:Pos}{e:Expr}{f:aa->Option PyData}(hg:Gl X "enumerate")(hm:X.mg "enumerate"=none)(h:PV X O e f)(hs:starEach [e] X.env=[(false,eval e X.env)]:=by rfl) :
  gR X O (.Tuple es x1 tpos) (.Call (.Name "enumerate" p) [e] [] pos) (fun ρ=>((f ρ).bind br).map dg):=(GO hg hm h hs).imp fun σ H R zpat=>by
 obtain⟨hid,H0,ρ,ow,ds,E,hf,k⟩:=zpat
 obtain⟨ds',g1,rfl⟩:=map_some hf
 obtain⟨d,h1,h2⟩:=bind_some g1
 rw[fD h2] at h1
 refine⟨hid,H0,ρ,ow,_,E,h1,fun v H' s D=>?_⟩
 obtain⟨a,xs,rfl,q,r⟩:=df D
 exact⟨a,rfl,⟨xs,(bA _ _).seq q⟩,k _ H' s (Dl q r)⟩
end L2
namespace L2
variable [Reg]
section
variable {X:Cx}{O:Ow}{i:Nat}{x:Str}{pos' spos:Pos}{elt tg iter:Expr}{ifs:List Expr}{scope:Scope}{pos:Pos}{fi:aa->Option (List PyData)}{S:PyData->aa->Option aa}{ft:aa->Option Bool}{fe:aa->Option PyData}{k:Nat}{N:List Str}{ix:List Nat}
theorem IC {st:Stmt}{T:Ty}{f:aa->Option PyData}(h:PS X st (ml (jK X.K O T f) (lK i)))(hO:O.s.lookup i=some T∨(O.s.lookup i=none∧T=.cl)):c_ X O st (fun ρ=>ax i ρ (f ρ)):=h.imp fun D σ H zpat=>by
 obtain⟨hid,H0,ρ,ow,o,E,hf,k⟩:=zpat
 obtain⟨d,g1,rfl⟩:=map_some hf
 rcases hO with hO | ⟨hO,rfl⟩
 ·refine⟨hid,H0,ρ,ow,d,E,g1,fun v as H' s n Dv=>k _ H' (as++ow) ?_ (E.setT s hO n Dv)⟩
  intro b u z
  by_cases hb:uni hid ow b
  ·rw[de hb] at z;cases z
  ·rw[bb hb] at z
   rw[bb fun y=>?_]
   ·exact s b u z
   ·rcases y with y | y
    ·exact hb (.inl y)
    ·rcases List.mem_append.mp y with y | y
     ·rw[n b y] at z;cases z
     ·exact hb (.inr y)
 ·refine⟨hid,H0,ρ,ow,d,E,g1,fun v as H' s n Dv=>k _ H' ow (aY s _) ((E.mono s).set hO (Dv.den.mono (fR (tN fun p hp=>List.mem_append_right _ hp))))⟩
theorem JD {K:PySem.W.Frag}{f:aa->Option (List PyData)}(h0:O.s=[]):∀ σ H Q,jK K O .cl (fun ρ=>(f ρ).map .list) σ H Q->tD K O f σ H Q:=fun σ H Q zpat=>by
 obtain⟨hid,H0,ρ,ow,d,E,hf,k⟩:=zpat
 obtain⟨ds,h1,rfl⟩:=map_some hf
 refine⟨hid,H0,ρ,ow,ds,E,h1,fun l vs H' s n q D=>k (.ref l) [] H' s (fun p hp=>by cases hp) (.cl ?_)⟩
 rw[E.emp h0,List.append_nil,gF]
 exact .lst (aN.of (by rw[bb fun z=>E.fresh n (.inl z)];exact q)) (D.mono (fq _ _ _))
theorem zm (hN:X.N.Nodup)(hi':X.N[i]?=some x)(hx':Loc X.env.scope x)(sc:Scope)(hsc:X.env.scope=sc)(C:gG sc X.N scope k N ix)
  (hx:X.xe=fun _ _=>False) (hc:X.calm=true) (hi:lq X O tg iter fi)
  (hg:∀ cl C s3 H3 fp pins,gj (cu X N scope cl C s3 H3 fp pins) O0 tg S) (ht:∀ cl C s3 H3 fp pins,ll (cu X N scope cl C s3 H3 fp pins) ifs ft) (he:∀ cl C s3 H3 fp pins,PR (cu X N scope cl C s3 H3 fp pins) O0 elt fe) (h0:O.s=[]:=by rfl)
  (hsw:swapsWith (.ListComp elt [⟨tg,iter,ifs,0⟩] scope pos) (some (.Name x pos')) spos.line X.env=pure true:=by rfl) (hf:X.fn x=true∨X.env.scope.names.lookup x=some .local:=by first | exact .inl rfl | exact .inr rfl | assumption)
  (hs:∀ x,foldedSetIterable iter X.env x=pure x:=by intro _;rfl):c_ X O (.Assign [.Name x pos'] (.ListComp elt [⟨tg,iter,ifs,0⟩] scope pos) spos) (fun ρ=>ax i ρ ((cM S ft fe (fi ρ) (frees k ix ρ)).map .list)):=
 IC ((Hg (g:=tG X.K O0 S) (tc:=tT X.K O0 ft) (te:=tR X.K O0 fe) hN hi' hx' sc hsc C hx hc hi hg ht he hsw hf hs).imp fun D σ H h=>vT σ H _ (JD h0 σ H _ h)) (.inr ⟨by rw[h0];rfl,rfl⟩)
end
section
variable {X:Cx}{O:Ow}{i:Nat}{e a:Expr}{f fa:aa->Option PyData}{pos p:Pos}
def tO (K:PySem.W.Frag)(O:Ow)(f:aa->Option (Option Int)):TO:=fun σ H Q=>dk K O f σ H fun hid H0 ρ ow o=>∀ H',aj H H'->Q o H'
abbrev m7 (X:Cx)(O:Ow)(e:Option Expr)(f:aa->Option (Option Int)):Prop:=PO X e (tO X.K O f)
theorem PO.imp {e:Option Expr}{t t':TO}(h:PO X e t)(hi:∀ σ H Q,t' σ H Q->t σ H Q):PO X e t':=fun pins s σ H Q I q=>h pins s σ H Q I (hi σ H Q q)
theorem yt:m7 X O none (fun _=>some none):=PO.imp GW fun σ H Q ⟨hid,H0,ρ,ow,o,E,hf,k⟩=>by cases hf;exact k H (aj.refl H)
theorem yu (h:PR X O e f):m7 X O (some e) (fun ρ=>((f ρ).bind dh).map some):=PO.imp (GY h) fun σ H Q zpat=>by
 obtain⟨hid,H0,ρ,ow,o,E,hf,k⟩:=zpat
 obtain⟨i,g1,rfl⟩:=map_some hf
 obtain⟨d,g2,g3⟩:=bind_some g1
 rw[h_ g3] at g2
 exact⟨hid,H0,ρ,ow,_,E,g2,fun v H' s D=>⟨i,eI D,k H' s⟩⟩
def ke (ds:List PyData)(lo hi:Option Int):List PyData:=(ds.drop (HT.sIx ds.length 0 lo)).take (HT.sIx ds.length ds.length hi - HT.sIx ds.length 0 lo)
def cutD (x:Option PyData)(lo hi:Option (Option Int)):Option (List PyData):=(x.bind br).bind fun ds=>lo.bind fun l=>hi.map fun h=>ke ds l h
theorem wz {lo hi:Option Expr}{fl fh:aa->Option (Option Int)}{p2:Pos}(ha:PR X O a fa)(hl:m7 X O lo fl)(hh:m7 X O hi fh):aP X O (.Subscript a (.Slice lo hi none p2) pos) (fun ρ=>cutD (fa ρ) (fl ρ) (fh ρ)):=(GD Jd ha hl hh).imp fun σ H Q zpat=>by
 obtain⟨hid,H0,ρ,ow,ds,E,hf,k⟩:=zpat
 obtain⟨es,g1,g2⟩:=bind_some hf
 obtain⟨d,g3,g4⟩:=bind_some g1
 rw[fD g4] at g3
 obtain⟨l,g5,g6⟩:=bind_some g2
 obtain⟨h,g7,rfl⟩:=map_some g6
 refine⟨hid,H0,ρ,ow,_,E,g3,fun x H1 s1 D1=>⟨hid,H0,ρ,ow,l,E.mono s1,g5,fun H2 s2=>⟨hid,H0,ρ,ow,h,(E.mono s1).mono s2,g7,fun H3 s3=>?_⟩⟩⟩
 obtain⟨q,vs,rfl,q1,r1⟩:=df D1
 have s23:=s2.trans s3
 refine ⟨q,vs,rfl,s23.seq ((bA _ _).seq q1),(fun n hn=>k n _ _ ((s1.trans s23).trans (bK hn)) ((s1.trans s23).free hn) bC ?_)⟩
 unfold lG ke
 rw[r1.length]
 exact (((r1.mono (aY s23 _)).drop _).take _).mono (ju (bK hn) hn fun b z=>by rcases z with z | z;exact .inl z;exact .inr (by simpa using z))
def eM (ns:List Int):List Int:=ns.mergeSort
def iU:List PyData->Option (List Int)
 | []=>some []
 | .int i::r=>(iU r).map (i::·)
 | _::_=>none
theorem rm:∀ (ns:List Int),iU (ns.map .int)=some ns
 | []=>rfl
 | n::r=>by rw[List.map_cons,iU,rm r];rfl
theorem n_:∀ {ds:List PyData} {ns:List Int},iU ds=some ns->ds=ns.map .int
 | [],ns,h=>by cases h;rfl
 | d::r,ns,h=>by
  cases d with
  | int i=>
   rw[iU] at h
   obtain⟨ms,h1,rfl⟩:=map_some h
   rw[List.map_cons,← n_ h1]
  | _=>exact L2.aQ h
theorem ar.isInts {K:PySem.W.Frag}{H:Hp}:∀ {vs:List V} {ns:List Int},ar K H vs (ns.map .int)->vs=ns.map .int
 | _,[],h=>qS h
 | vs,n::r,h=>by
  obtain⟨v,ws,zq2,h1,h2⟩:=nR h
  subst zq2
  rw[eI h1,ar.isInts h2]
  rfl
def kH:PyData->Option (List PyData)
 | .list ds=>(iU ds).bind fun ns=>if decide (ns.length<64)=true then some ((eM ns).map .int) else none
 | _=>none
theorem tQ:∀ {us:List Value} {ns:List Int},IntsAre us ns->aG (ns.map V.int) us
 | _,_,.nil=>.nil
 | _,_,.cons n t h=>.cons ⟨t,rfl⟩ (tQ h)
theorem iW (ns:List Int):(eM ns).Perm ns:=List.mergeSort_perm ns _
theorem rq (ns:List Int):(eM ns).Pairwise (·≤·):=by
 have:=List.pairwise_mergeSort (le:=fun a b:Int=>decide (a≤b)) (fun a b c h1 h2=>by simp at *;omega) (fun a b=>by simp;omega) ns
 exact this.imp fun h=>by simpa using h
theorem BQ:dz X (.builtin "sorted") (fun xs H Q=>∃ p ns,xs=[.ref p]∧aN X.K H p (ns.map V.int)∧ns.length<64∧∀ l,H l=none->Q (.ref l) (upd H l (.lst ((eM ns).map V.int)))):=by
 intro pins s σ H xs us Q I r h
 revert h
 refine fun zqq=>L2.jB zqq fun q ns zq2 hq hl k=>?_
 clear zqq
 subst zq2
 obtain⟨u,zq1,rx⟩:=vals1 r
 subst zq1
 cases rx
 obtain⟨its,r',pl,hz⟩:=I.list hq
 have hI:=intsAre_of r'
 have hlen:=r'.length
 rw[List.length_map] at hlen
 refine sorted_ints pl.isList hI (by omega) fun out ns' a1 a2 a3=>?_
 have e:ns'=eM ns:=PySem.W.ksm_same (a2.trans (iW ns).symm) a3 (rq ns)
 subst e
 obtain⟨ep,hat⟩:=sortedAll_at s.heap its out
 have hfree:H (s.heap.objs.size+1)=none:=I.hok.fresh (Nat.le_succ _)
 refine⟨.ref (s.heap.objs.size+1),_,I.laid (t':=s.toks) (o:=.lst ((eM ns).map V.int)) (fun b o q=>sortedAll_old q) (Nat.le_succ _) ?_,rfl,k _ hfree⟩
 refine ⟨?_,out.toList,ep,tQ a1,(by rw[hat])⟩
 have hz':(64:Nat)≤sizeLine:=by decide
 have:=(iW ns).length_eq
 rw[List.length_map]
 omega
theorem CZ (hg:Gl X "sorted")(hm:X.mg "sorted"=none)(ha:PR X O a fa)(he:starEach [a] X.env=(false,eval a X.env)::starEach [] X.env:=by rfl)(hpl:(backTo pos (starEach [] X.env)).any (·.1)=false:=by rfl)
  (hv:bootBuiltins "sorted"=some (.builtin "sorted"):=by decide +kernel):aP X O (.Call (.Name "sorted" p) [a] [] pos) (fun ρ=>(fa ρ).bind kH):=
 (jC BQ hg hm hv (pa_cons ha pa_nil he) (by decide) (by decide) he hpl).imp fun σ H Q zpat=>by
  obtain⟨hid,H0,ρ,ow,r,E,hf,k⟩:=zpat
  obtain⟨d,h1,h2⟩:=bind_some hf
  refine⟨hid,H0,ρ,ow,d,E,h1,fun x H1 s1 D1=>?_⟩
  unfold kH at h2
  split at h2
  case h_2=>cases h2
  obtain⟨ns,h3,h4⟩:=bind_some h2
  split at h4
  case isFalse=>cases h4
  rename_i hlt
  obtain rfl:=Option.some.inj h4
  have e:=n_ h3
  subst e
  obtain⟨q,vs,rfl,q1,r1⟩:=df D1
  have e2:=r1.isInts
  subst e2
  exact ⟨q,ns,rfl,(bA _ _).seq q1,of_decide_eq_true hlt,(fun l hl=>k l _ _ (s1.trans (bK hl)) (s1.free hl) bC (ar.ints _))⟩
theorem ar.rev {K:PySem.W.Frag}{H:Hp}:∀ {vs:List V} {ds:List PyData},ar K H vs ds->ar K H vs.reverse ds.reverse
 | _,_,.nil=>.nil
 | _,_,.cons h r=>by
  rw[List.reverse_cons,List.reverse_cons]
  exact (ar.rev r).append (.cons h .nil)
def og (d e:PyData):Option PyData:=match e with
 | .none=>some (.bool (match d with | .none=>true | _=>false))
 | _=>none
theorem Gi:bX X (compareOp .Is) (fun x y H Q=>∃ d,az X.K H x d∧y=.non∧Q (.bl (match d with | .none=>true | _=>false)) H):=by
 intro pins s σ H x y v u Q I rx ry h
 revert h
 refine fun zqq=>L2.Fj zqq fun d D zq2 q=>?_
 clear zqq
 subst zq2
 cases ry
 cases D with
 | non=>cases rx;exact wpAny_is_self rfl ⟨.bl _,H,I,rfl,q⟩
 | bl b=>cases rx;exact wpAny_is_other rfl (fun z=>by cases z) ⟨.bl _,H,I,rfl,q⟩
 | int i=>obtain⟨t,rfl⟩:=rx;exact wpAny_is_other rfl (fun z=>by cases z) ⟨.bl _,H,I,rfl,q⟩
 | str i=>obtain⟨t,rfl⟩:=rx;exact wpAny_is_other rfl (fun z=>by cases z) ⟨.bl _,H,I,rfl,q⟩
 | tup _ _=>cases rx;exact wpAny_is_other rfl (fun z=>by cases z) ⟨.bl _,H,I,rfl,q⟩
 | lst _ _=>cases rx;exact wpAny_is_other rfl (fun z=>by cases z) ⟨.bl _,H,I,rfl,q⟩
 | fn _ _=>cases rx;exact wpAny_is_other rfl (fun z=>by cases z) ⟨.bl _,H,I,rfl,q⟩
 | exc _ _=>cases rx;exact wpAny_is_other rfl (fun z=>by cases z) ⟨.bl _,H,I,rfl,q⟩
 | obj _ _=>cases rx;exact wpAny_is_other rfl (fun z=>by cases z) ⟨.bl _,H,I,rfl,q⟩
theorem Cs {K:PySem.W.Frag}{H:Hp}{v:V}(h:az K H v .none):v=.non:=by cases h;rfl
theorem BD:eU X .Is og:=⟨_,Gi,fun x y H d e r Q D1 D2 q k=>by
 unfold og at q
 split at q
 ·cases q;exact⟨d,D1,Cs D2,k _ (.bl _)⟩
 ·cases q⟩
def Dc (K:PySem.W.Frag)(n:Nat)(t:fP):TG:=fun v σ H Q=>∃ a xs,v=.ref a∧aN K H a xs∧xs.length=n∧t xs σ H Q
theorem GI {es:List Expr}{k:Nat}{t:fP}{n:Nat}(hc:X.calm=true)(h:gQ X es t)
  (hn:(assignEach es X.env).length=n:=by rfl) (hst:(assignEach es X.env).findIdx? (·.1)=none:=by rfl):PG X (.Tuple es k pos) (Dc X.K n t):=by
 intro pins s σ H v u Q I r hw
 revert hw
 refine fun zqq=>L2.jB zqq fun a xs e1 hq hl hw=>?_
 clear zqq
 subst e1
 cases r
 obtain⟨its,rv,ht,hz⟩:=I.list hq
 rw[assign_Tuple]
 refine wpAny_bind (wpAny_standAt ?_)
 unfold unpack
 have hsz:(assignEach es X.env).length=its.toArray.size:=by rw[hn,← hl,List.size_toArray];exact rv.length
 rw[hsz,hst]
 refine wpAny_bind (wpAny_holding (PySem.W.kun_itemsOf (I.ok.hd hc) ht.isList fun h' hx=>?_))
 have I1:Inv X pins σ H {s with heap:=h' }:=I.kept (t':=s.toks) fun b o e=>hx b o (Nat.ne_of_lt (Heap.lt_size e)) e
 exact h pins _ σ H xs _ Q I1 (by simpa using rv) hw
def lZ (n:Nat)(T:List PyData->aa->Option aa):PyData->aa->Option aa
 | .list ds,ρ=>if ds.length=n then T ds ρ else none
 | _,_=>none
theorem Dg {es:List Expr}{k n:Nat}{T:List PyData->aa->Option aa}(hc:X.calm=true)(h:lj X O es T)(hn:(assignEach es X.env).length=n:=by rfl)(hst:(assignEach es X.env).findIdx? (·.1)=none:=by rfl):gj X O (.Tuple es k pos) (lZ n T):=
 (GI hc h hn hst).imp fun v σ H Q zpat=>by
  obtain⟨hid,H0,ρ,ow,d,ρ',E,D,hS,k⟩:=zpat
  cases d with
  | list ds=>
   rw[lZ] at hS
   split at hS
   ·rename_i hl
    obtain⟨a,vs,rfl,q,r⟩:=df D
    exact⟨a,vs,rfl,(bA _ _).seq q,by rw[r.length];exact hl,hid,H0,ρ,ow,ds,ρ',E,r,hS,k⟩
   ·exact L2.aQ hS
  | _=>exact L2.aQ hS
end
end L2
namespace L2
variable [Reg]
def rV (ρ:aa)(i:Nat):Nat:=match (ρ[i]?).join with
 | some (.int k)=>k.natAbs
 | some (.list ds)=>ds.length
 | _=>0
theorem dC:bootBuiltins "len"=some (.builtin "len"):=by decide +kernel
theorem BA:bootBuiltins "abs"=some (.builtin "abs"):=by decide +kernel
theorem BC:bootBuiltins "min"=some (.builtin "min"):=by decide +kernel
theorem BB:bootBuiltins "int"=some (.type "int"):=by decide +kernel
def i3:Option aq->Option PyData
 | some (.rt r)=>some r
 | some (.nx _)=>some .none
 | _=>none
def bz (n m:Nat)(B:aa->Option aq)(ds:List PyData):Option PyData:=if ds.length=n then i3 (B (ds.map some++List.replicate m none)) else none
theorem zk {n m:Nat}{B:aa->Option aq}{ds:List PyData}{r:PyData}(h:bz n m B ds=some r):ds.length=n∧i3 (B (ds.map some++List.replicate m none))=some r:=by
 unfold bz at h
 split at h
 ·exact⟨by assumption,h⟩
 ·exact L2.aQ h
theorem cN {P:Program}{w:World}{K:PySem.W.Frag}{mg:Str->Option Value}{base:Heap}{x qual:Str}{st:Stmt}{f:Addr}{fd:FuncData}{N ps:List Str}{k:Nat}(O:Ow)(F:aZ K x qual st f fd)(S:bp N ps (aL st))
  (hO:∀ i∈O.s.map (·.1),ps.length≤i) (B:aa->Option aq)
  (hbody:∀ (cdv:Value),kX K f cdv->∀ (A:Around) (outer:List Env) (s:Shared) (H:Hp) (E:XK),ba k (A.deeper (envOfC qual (aL st) s.heap.objs.size f cdv)) ->
   eF (cV bc P w K mg base N qual (aL st) f cdv A outer s H E).nox O (cW st) B) :
  aS P w K mg base bc (k+1) f fd ps (bB K O.r (bz ps.length (N.length - ps.length) B)):=by
 refine CW O F S (fun ds r h=>(zk h).1) hO B hbody fun ds r h=>?_
 obtain⟨h1,h2⟩:=zk h
 rw[h1]
 unfold i3 at h2
 split at h2
 ·rename_i q
  obtain rfl:=Option.some.inj h2
  exact .inl q
 ·rename_i ρ q
  obtain rfl:=Option.some.inj h2
  exact .inr ⟨rfl,ρ,q⟩
 ·exact L2.aQ h2
def aW (P:Program)(w:World)(K:PySem.W.Frag)(mg:Str->Option Value)(base:Heap)(k:Nat)(x:Str)(ps:List Str)(T:Ty)(F:List PyData->Option PyData):Prop:=
 ∃ f fd,aS P w K mg base bc k f fd ps (bB K T F)∧mg x=some (.ref f)∧PySem.W.keepIn K (.ref f)=true∧Binds K fd ps []∧PySem.W.nsIn K mainGlobals x=some (some (.ref f))
section
variable {X:Cx}{O:Ow}{a:Expr}{es:List Expr}{pos p:Pos}{fs:aa->Option (List PyData)}{k:Nat}{ps:List Str}{x:Str}{T:Ty}{F:List PyData->Option PyData}
theorem cI (G:aW X.prog X.w X.K X.mg X.base k x ps T F)(hr:ba k X.A)(hg:Gl X x)(ha:fj X O (a::es) fs)(hdb:(x==("__debug__":Str))=false:=by decide)(he:starEach (a::es) X.env=(false,eval a X.env)::starEach es X.env:=by rfl)(hpl:(backTo pos (starEach es X.env)).any (·.1)=false:=by rfl) :
  PR X O (.Call (.Name x p) (a::es) [] pos) (fun ρ=>(fs ρ).bind F):=by
 obtain⟨f,fd,h1,h2,h3,h4,_⟩:=id G
 exact HC h1 hr hg h2 h3 h4 ha hdb he hpl
theorem jL (G:aW X.prog X.w X.K X.mg X.base k x ps T F)(hr:ba k X.A)(hg:Gl X x)(ha:gP X O (a::es) fs)(hdb:(x==("__debug__":Str))=false:=by decide)(he:starEach (a::es) X.env=(false,eval a X.env)::starEach es X.env:=by rfl)(hpl:(backTo pos (starEach es X.env)).any (·.1)=false:=by rfl) :
  PV X O (.Call (.Name x p) (a::es) [] pos) (fun ρ=>(fs ρ).bind F):=by
 obtain⟨f,fd,h1,h2,h3,h4,_⟩:=id G
 exact Kg h1 hr hg h2 h3 h4 ha hdb he hpl
theorem C3 (G:aW X.prog X.w X.K X.mg X.base k x ps T F)(hr:ba k X.A)(hg:Gl X x)(ha:gP X O (a::es) fs)(hdb:(x==("__debug__":Str))=false:=by decide)(he:starEach (a::es) X.env=(false,eval a X.env)::starEach es X.env:=by rfl)(hpl:(backTo pos (starEach es X.env)).any (·.1)=false:=by rfl) :
  dJ X O T (.Call (.Name x p) (a::es) [] pos) (fun ρ=>(fs ρ).bind F):=by
 obtain⟨f,fd,h1,h2,h3,h4,_⟩:=id G
 exact C2 h1 hr hg h2 h3 h4 ha hdb he hpl
end
theorem Ey {P:List Value->Prop}{us:List Value}(h:us.length=0)(k:P []):P us:=by
 cases us with
 | nil=>exact k
 | cons a r=>cases h
theorem lY {P:List Value->Prop}{us:List Value}{n:Nat}(h:us.length=n+1)(k:∀ a r,r.length=n->P (a::r)):P us:=by
 cases us with
 | nil=>cases h
 | cons a r=>exact k a r (Nat.succ.inj h)
theorem kq {P:List Value->Prop}{us:List Value}(h:us.length=1)(k:∀ a,P [a]):P us:=lY h fun a r h=>Ey (P:=fun r=>P (a::r)) h (k a)
theorem eO {P:List Value->Prop}{us:List Value}(h:us.length=2)(k:∀ a b,P [a,b]):P us:=lY h fun a r h=>kq (P:=fun r=>P (a::r)) h (k a)
theorem fC {P:List Value->Prop}{us:List Value}(h:us.length=3)(k:∀ a b c,P [a,b,c]):P us:=lY h fun a r h=>eO (P:=fun r=>P (a::r)) h (k a)
theorem rE {P:List Value->Prop}{us:List Value}(h:us.length=4)(k:∀ a b c d,P [a,b,c,d]):P us:=lY h fun a r h=>fC (P:=fun r=>P (a::r)) h (k a)
theorem rF {P:List Value->Prop}{us:List Value}(h:us.length=5)(k:∀ a b c d e,P [a,b,c,d,e]):P us:=lY h fun a r h=>rE (P:=fun r=>P (a::r)) h (k a)
end L2
namespace L2
variable [Reg]
def Keeps (P:Program)(w:World)(h:Heap)(g:Addr):Prop:=∃ k,(k=Keeper.frame∨k=Keeper.machine∨k=Keeper.boundFrame)∧PySem.W.Looks (model P w) h (keeperOf (.ref g)) k
structure iE (P:Program)(w:World)(K:PySem.W.Frag)(mg:Str->Option Value)(base:Heap)(k:Nat)(tag:Str)(F:List PyData->Option PyData):Prop where
 keep:∀ (A:Around) (outer:List Env) (s:Shared) (H:Hp) (g:Addr) (cv:List V),dH P w K mg base A outer s H->gM K H g tag cv->Keeps P w s.heap g
 run:∀ (A:Around) (outer:List Env) (s:Shared) (H:Hp) (g:Addr) (cv:List V) (us:List Value) (vs:List V) (Q:VK) (E:XK),ba k A->dH P w K mg base A outer s H->gM K H g tag cv->aG vs us->bB K .cl F (vs++cv) H Q E ->
  codeAny (model P w) A (.call (.ref g) ⟨us,[]⟩) (CR bc outer P w H s Q E) s
theorem iE.mono {P:Program}{w:World}{K:PySem.W.Frag}{mg:Str->Option Value}{base:Heap}{j k:Nat}{tag:Str}{F:List PyData->Option PyData}(h:iE P w K mg base j tag F)(hk:j≤k):iE P w K mg base k tag F:=
 ⟨h.keep,fun A outer s H g cv us vs Q E hr=>h.run A outer s H g cv us vs Q E (hr.mono hk)⟩
abbrev ja:=List (Str×(List PyData->Option PyData))
def d_ (T:ja)(c:PyData)(ds:List PyData):Option PyData:=match c with
 | .dict [(.none,.str tag),(.none,.tuple caps)]=>(T.lookup tag).bind fun F=>F (ds++caps)
 | _=>none
theorem vd (T:ja)(tag:Str)(caps ds:List PyData):d_ T (clo tag caps) ds=(T.lookup tag).bind fun F=>F (ds++caps):=rfl
theorem Bf {T:ja}{c:PyData}{ds:List PyData}{r:PyData}(h:d_ T c ds=some r):∃ tag caps F,c=clo tag caps∧T.lookup tag=some F∧F (ds++caps)=some r:=by
 unfold d_ at h
 split at h
 ·rename_i tag caps
  obtain⟨F,h1,h2⟩:=bind_some h
  exact ⟨tag,caps,F,rfl,h1,h2⟩
 ·exact L2.aQ h
def i7 (P:Program)(w:World)(K:PySem.W.Frag)(mg:Str->Option Value)(base:Heap)(k:Nat)(T:ja):Prop:=∀ tag F,T.lookup tag=some F->iE P w K mg base k tag F
theorem Bg {P:Program}{w:World}{K:PySem.W.Frag}{mg:Str->Option Value}{base:Heap}{k:Nat}:i7 P w K mg base k []:=fun tag F h=>by cases h
theorem ve {P:Program}{w:World}{K:PySem.W.Frag}{mg:Str->Option Value}{base:Heap}{k:Nat}{x:Str}{F:List PyData->Option PyData}{T:ja}(h:iE P w K mg base k x F)(r:i7 P w K mg base k T):i7 P w K mg base k ((x,F)::T):=fun tag G q=>by
 rw[List.lookup_cons] at q
 cases e:tag==x with
 | true=>rw[e] at q;cases q;rw[eq_of_beq e];exact h
 | false=>rw[e] at q;exact r tag G q
section
variable {X:Cx}{O:Ow}{a:Expr}{es:List Expr}{pos p:Pos}{fs:aa->Option (List PyData)}{fx:aa->Option PyData}{k:Nat}{ps:List Str}{x:Str}{T:ja}{T':Ty}{F:List PyData->Option PyData}
theorem ze (GA:i7 X.prog X.w X.K X.mg X.base k T)(hr:ba k X.A)(hx:PR X O (.Name x p) fx)(ha:fj X O (a::es) fs)
  (he:starEach (a::es) X.env=(false,eval a X.env)::starEach es X.env:=by rfl) (hpl:(backTo pos (starEach es X.env)).any (·.1)=false:=by rfl) :
  PR X O (.Call (.Name x p) (a::es) [] pos) (fun ρ=>(fx ρ).bind fun c=>(fs ρ).bind (d_ T c)):=by
 intro pins s σ H Q I ⟨hid,H0,ρ,ow,r,E,hf,q⟩
 obtain⟨c,hc,hf⟩:=bind_some hf
 obtain⟨ds,h1,h2⟩:=bind_some hf
 obtain⟨tag,caps,F,zq3,h3,h4⟩:=Bf h2
 subst zq3
 have FV:=GA tag F h3
 refine wpAny_Call_Name_kw (aI (hx pins s σ H (fun v H1=>aj H H1∧az X.K (ah H1 hid) v (clo tag caps)) I ⟨hid,H0,ρ,ow,clo tag caps,E,hc,fun v H1 s1 D1=>⟨s1,D1⟩⟩) fun u s1 zpat=>?_)
 obtain⟨v,H1,I1,rv,sm1,D1⟩:=zpat
 obtain⟨g,cv,zq2,fv,dc⟩:=Cr D1
 subst zq2
 obtain rfl:u=Value.ref g:=rv
 have hA:=ha pos pins s1 σ H1 (fun vs H2=>aj H1 H2∧ar X.K (ah H2 hid) vs ds) I1 ⟨hid,H0,ρ,ow,ds,E.mono sm1,h1,fun vs H2 s2 D2=>⟨s2,D2⟩⟩
 show wpAny (model X.prog X.w) X.A (callWith pos (.ref g) [] (backTo pos (starEach (a::es) X.env)) []) (EP X pins σ Q) X.xe s1
 rw[he] at hA ⊢
 refine PySem.W.callWith_of (P:=fun h=>Keeps X.prog X.w h g) (by show ((false||(backTo pos (starEach es X.env)).any (·.1))||false)=false;rw[hpl];rfl) (fun h z=>z) (PySem.Calls.evalArgs_plain (aI hA fun us s2 zpat=>?_))
 obtain⟨vs,H2,I2,rr,sm2,D2⟩:=zpat
 have fv2:gM X.K H2 g tag cv:=fv.mono ((bA _ _).trans sm2)
 have E2:=(E.mono sm1).mono sm2
 refine⟨FV.keep X.A X.stack s2 H2 g cv I2.env0 fv2,?_⟩
 have sp:bB X.K .cl F (vs++cv) H2 Q E0:=⟨hid,ds++caps,r,E2.ishL,D2.append (dc.mono (aY sm2 _)),h4,fun v as H3 s3 n3 D3=>q v H3 ((sm1.trans sm2).trans s3) (D3.raw (fq _ _ _) fun b hb o e=>by rw[bb fun z=>E2.ish b z (n3 b hb)];exact e)⟩
 refine wpAny_call (codeAny_mono (FV.run X.A X.stack s2 H2 g cv us vs Q E0 hr I2.env0 fv2 rr sp) fun r s' hq=>?_)
 cases r with
 | error e=>exact (hq:False).elim
 | ok fl=>
  cases fl with
  | ret u=>exact I2.after hq
  | next=>exact False.elim hq
  | brk=>exact False.elim hq
  | cont=>exact False.elim hq
end
end L2
namespace L2
variable [Reg]
theorem vK {env:Env}:∀ (l:List (Str×NameKind)) (b:List (Str×Addr)),(l.foldl (fo env) b).map (fun z=>z.1)=((l.filter fun x=>x.2==.free).map (fun z=>z.1)).reverse++b.map (fun z=>z.1)
 | [],b=>by simp
 | x::r,b=>by
  rw[List.foldl_cons,vK r]
  unfold fo
  by_cases h:(x.2==NameKind.free)=true
  ·simp[h]
  ·simp[h]
theorem zQ:∀ {l:List (Str×Addr)} {x y:Str} {c:Addr},(l.map (fun z=>z.2)).Nodup->(x,c)∈l->(y,c)∈l->x=y
 | [],_,_,_,_,h,_=>by cases h
 | z::r,x,y,c,nd,h1,h2=>by
  rw[List.map_cons,List.nodup_cons] at nd
  rcases List.mem_cons.mp h1 with e1 | h1
  ·rcases List.mem_cons.mp h2 with e2 | h2
   ·rw[← e1] at e2;exact (Prod.mk.inj e2).1.symm
   ·exact absurd (List.mem_map.mpr ⟨(y,c),h2,by rw[← e1]⟩) nd.1
  ·rcases List.mem_cons.mp h2 with e2 | h2
   ·exact absurd (List.mem_map.mpr ⟨(x,c),h1,by rw[← e2]⟩) nd.1
   ·exact zQ nd.2 h1 h2
theorem rK:∀ {l:List (Str×Addr)} {i:Nat} {z:Str×Addr},(l.map (fun z=>z.1)).Nodup->l[i]?=some z->l.lookup z.1=some z.2
 | [],_,_,_,h=>by simp at h
 | y::r,0,z,nd,h=>by
  simp at h
  subst h
  rw[List.lookup_cons]
  simp
 | y::r,i+1,z,nd,h=>by
  rw[List.map_cons,List.nodup_cons] at nd
  have h':r[i]?=some z:=by simpa using h
  have hne:z.1≠y.1:=fun e=>nd.1 (List.mem_map.mpr ⟨z,List.mem_of_getElem? h',e⟩)
  have hb:(z.1==y.1)=false:=beq_eq_false_iff_ne.mpr hne
  rw[List.lookup_cons,hb]
  exact rK nd.2 h'
theorem Ak:∀ {ps:List Str} {us:List Value} {i:Nat} {x:Str} {u:Value},ps.Nodup->ps[i]?=some x->us[i]?=some u->(ps.zip us).reverse.lookup x=some u
 | [],_,_,_,_,_,h,_=>by simp at h
 | _::_,[],_,_,_,_,_,h=>by simp at h
 | p::r,w::us,0,x,u,nd,h1,h2=>by
  simp at h1 h2
  subst h1
  subst h2
  have hn:((r.zip us).reverse).lookup p=none:=by
   rw[List.lookup_eq_none_iff]
   intro q hq
   have:=(List.of_mem_zip (List.mem_reverse.mp hq)).1
   have hne:p≠q.1:=fun e=>(List.nodup_cons.mp nd).1 (e▸this)
   simpa using hne
  rw[List.zip_cons_cons,List.reverse_cons,List.lookup_append,hn]
  simp
 | p::r,w::us,i+1,x,u,nd,h1,h2=>by
  have:=Ak (i:=i) (List.nodup_cons.mp nd).2 (by simpa using h1) (by simpa using h2)
  rw[List.zip_cons_cons,List.reverse_cons,List.lookup_append,this]
  simp
theorem KZ {P q:Program}(h:((cS P).all fun y=>((recsOf q).find? fun e=>e.name==y).isSome)=true):∀ y∈cS P,((recsOf q).find? fun e=>e.name==y).isSome=true:=List.all_eq_true.mp h
theorem KY {P:Program}{K:PySem.W.Frag}(h:((cS P).all fun y=>match PySem.W.tabIn K y with | some z=>(K.lookup z.2).isNone | none=>true)=true)(y:Str)(c p:Addr)(hy:y∈cS P)(e:PySem.W.tabIn K y=some (c,p)):K.lookup p=none:=by
 have:=List.all_eq_true.mp h y hy
 rw[e] at this
 simpa using this
def ko:Expr->Arguments×Expr×Scope
 | .Call _ (.Lambda a b s _::_) _ _=>(a,b,s)
 | .Call _ _ (⟨_,.Lambda a b s _,_⟩::_) _=>(a,b,s)
 | _=>(⟨[],[],none,[],[],none,[]⟩,.Constant .none 0 ⟨0,0,0,0⟩,{kind:=.function,names:=[],isGenerator:=false,isCoroutine:=false})
def kJ:Stmt->Expr
 | .Return (some e) _=>e
 | .Assign _ e _=>e
 | .Expr e _=>e
 | _=>.Constant .none 0 ⟨0,0,0,0⟩
def nW (L:dI)(n:Addr)(clos:List (Str×Addr))(g c':Addr)(q:Str):Env:=newEnv L.scope n mainGlobals clos (q++".<locals>.") (some g) (.ref c') none builtinsNs
def qR (P:Program)(w:World)(K:PySem.W.Frag)(mg:Str->Option Value)(base:Heap)(L:dI)(clos:List (Str×Addr))(g c':Addr)(q:Str)(A:Around)(outer:List Env)(s:Shared)(H:Hp):Cx where
 prog:=P
 w:=w
 K:=K
 mg:=mg
 base:=base
 A:=A.deeper (nW L s.heap.objs.size clos g c' q)
 N:=L.ps++L.free
 s₀:=s
 H₀:=H
 env:=nW L s.heap.objs.size clos g c' q
 outer:=outer
 stack:=nW L s.heap.objs.size clos g c' q::outer
 ex:=[]
 fn:=fun _=>false
 calm:=true
 pn:=[]
 xe:=fun _ _=>False
structure lg (L:dI):Prop where
 kind:L.scope.kind=.function
 co:L.scope.isCoroutine=false
 gen:L.scope.isGenerator=false
 nocell:∀ y∈L.scope.names,y.2≠.cell
 par:∀ x∈L.ps,L.scope.names.lookup x=some .local
 fr:((L.scope.names.filter fun x=>x.2==.free).map (fun z=>z.1)).reverse=L.free
 frl:∀ x∈L.free,L.scope.names.lookup x=some .free
 nd:L.ps.Nodup
 ndf:L.free.Nodup
section
variable {P:Program}{w:World}{K:PySem.W.Frag}{mg:Str->Option Value}{base:Heap}{L:dI}{clos:List (Str×Addr)}{g c':Addr}{q:Str}{A:Around}{outer:List Env}{s:Shared}{H:Hp}
theorem DX (S:lg L)(hd:A.handled=none)(e0:dH P w K mg base A outer s H){vs cv:List V}{us:List Value}(hl:vs.length=L.ps.length)(hc:cv.length=clos.length)(hcn:clos.map (fun z=>z.1)=L.free)(hcd:(clos.map (fun z=>z.2)).Nodup)
  (hcv:∀ (i:Nat) (z:Str×Addr) (v:V),clos[i]?=some z->cv[i]?=some v->∃ u o,H z.2=some (fz z.2 o)∧o.data=.cell (some u)∧RelV v u) (r:aG vs us) {h':Heap} {t:Nat} (hns:h'.Ns s.heap.objs.size fun x=>(L.ps.zip us).reverse.lookup x) (hk:∀ b o,s.heap.get? b=some o->h'.get? b=some o) :
  Inv (qR P w K mg base L clos g c' q A outer s H) [] ((vs++cv).map some) H {s with heap:=h',toks:=t}:=by
 have noA:∀ b:Addr,b∉(qR P w K mg base L clos g c' q A outer s H).ex:=fun b z=>absurd (show b∈([]:List Addr) from z) (by simp)
 have at_:∀ {x:Str} {c:Addr},clos.lookup x=some c->∃ i u o v,clos[i]?=some (x,c)∧cv[i]?=some v∧H c=some (fz c o)∧o.data=.cell (some u)∧RelV v u:=fun {x c} e=>by
  obtain⟨i,hi⟩:=List.getElem?_of_mem (PySem.mem_of_lookup e)
  have hlt:i<cv.length:=by rw[hc];exact (List.getElem?_eq_some_iff.mp hi).1
  have hv:=List.getElem?_eq_getElem hlt
  obtain⟨u,o,h1,h2,h3⟩:=hcv i (x,c) _ hi hv
  exact ⟨i,u,o,_,hi,hv,h1,h2,h3⟩
 have cellAt:∀ {c:Addr} {o:Obj} {u:Value},H c=some (fz c o)->o.data=.cell (some u)->h'.IsCell c (some u):=fun {c o u} h1 h2=>⟨o,hk c o (e0.hok c _ h1).1,h2⟩
 have inF:∀ x,L.scope.names.lookup x=some .free->x∈L.free:=fun x hx=>by
  rw[← S.fr]
  exact List.mem_reverse.mpr (List.mem_map.mpr ⟨(x,.free),List.mem_filter.mpr ⟨PySem.mem_of_lookup hx,rfl⟩,rfl⟩)
 have hasF:∀ x∈L.free,∃ c,clos.lookup x=some c:=fun x hx=>by
  rw[← hcn] at hx
  obtain⟨z,hz,e⟩:=List.mem_map.mp hx
  cases q2:clos.lookup x with
  | some c=>exact⟨c,rfl⟩
  | none=>
   rw[List.lookup_eq_none_iff] at q2
   have:=q2 z hz
   rw[e] at this
   simp at this
 refine⟨⟨e0.mod,S.kind,rfl,rfl,Nat.le_refl _,fun y z c h1 h2=>?_,fun y hy=>?_,fun y c z _=>(by cases z),fun _=>hd,Around.frames_deeper e0.frames,.inr ⟨rfl,rfl⟩,fun b z=>absurd z (noA b),e0.bs,e0.bsz,fun b _ _=>noA b,fun b z=>absurd z (noA b),e0.funs,e0.frf,e0.tabs⟩,
  rfl,e0.bare,Un.kept hk,⟨_,hns,fun i y v h1 h2 h3=>?_⟩,fun y c h=>?_,e0.hok.fresh (Nat.le_refl _),fun y c h=>?_,fun p hp=>absurd (show p∈([]:List (Addr×Obj)) from hp) (by simp),e0.hok.kept hk,?_⟩
 ·exact zQ hcd (PySem.mem_of_lookup h1) (PySem.mem_of_lookup h2)
 ·have hy:L.scope.names.lookup y=some .cell∨L.scope.names.lookup y=some .free:=hy
  rcases hy with hy | hy
  ·exact absurd rfl (S.nocell _ (PySem.mem_of_lookup hy))
  ·exact hasF y (inF y hy)
 ·have h1:(L.ps++L.free)[i]?=some y:=h1
  have h2:((vs++cv).map some)[i]?=some (some v):=h2
  have hv:(vs++cv)[i]?=some v:=by
   rw[List.getElem?_map] at h2
   cases e:(vs++cv)[i]? with
   | none=>rw[e] at h2;cases h2
   | some a=>rw[e] at h2;cases h2;rfl
  by_cases hi:i<L.ps.length
  ·rw[List.getElem?_append_left hi] at h1
   rw[List.getElem?_append_left (by omega)] at hv
   obtain⟨u,hu,rv⟩:=r.get hv
   exact⟨u,rv,.inl ⟨S.par y (List.mem_of_getElem? h1),Ak S.nd h1 hu⟩⟩
  ·rw[List.getElem?_append_right (by omega)] at h1 hv
   rw[hl] at hv
   have hz:(clos.map (fun z=>z.1))[i - L.ps.length]?=some y:=by rw[hcn];exact h1
   rw[List.getElem?_map] at hz
   cases e:clos[i - L.ps.length]? with
   | none=>rw[e] at hz;cases hz
   | some z=>
    rw[e] at hz
    have ez:z.1=y:=Option.some.inj hz
    obtain⟨u,o,a1,a2,a3⟩:=hcv _ z v e hv
    refine⟨u,a3,.inr ⟨.inr (S.frl y (List.mem_of_getElem? h1)),z.2,?_,cellAt a1 a2⟩⟩
    show clos.lookup y=some z.2
    rw[← ez]
    exact rK (by rw[hcn];exact S.ndf) e
 ·obtain⟨i,u,o,v,_,_,a1,a2,_⟩:=at_ h
  exact⟨_,cellAt a1 a2⟩
 ·obtain⟨i,u,o,v,_,_,a1,a2,_⟩:=at_ h
  exact .inr ⟨rfl,o,_,a1⟩
 ·show ((vs++cv).map some).length=(L.ps++L.free).length
  rw[List.length_map,List.length_append,List.length_append,hl,hc,← hcn,List.length_map]
theorem BF {R:Result->Shared->Prop}{a:Addr}{args:Args}{o:Obj}{fd:FuncData}{e:Expr}(room:A.depth<recursionLimit)(at_:s.heap.get? a=some o)(isf:o.data=.func fd)(nco:fd.scope.isCoroutine=false)(ngen:fd.scope.isGenerator=false)(isE:fd.body=.expr e)(code:s.heap.CodeRec fd.code q)
  (go:wpAny (model P w) A.in1 (bindArgs fd args) (fun bs s1=>wpAny (model P w) A.in1 (newFunctionEnv fd.scope fd.globals fd.closure bs (q++".<locals>.") (some a) fd.code none fd.builtins) (fun env s2=>s2.heap.NoLimit∧codeAny (model P w) A (.expr e env) R s2) (fun x s3=>R (.error x) s3) s1) (fun x s3=>R (.error x) s3) s) :
  codeAny (model P w) A (.call (.ref a) args) R s:=by
 obtain⟨k,ok,fs,tk,ek,hk1,hk2,hk3⟩:=id code
 rw[ek] at go
 have body:wpAny (model P w) A.in1 (callAny (.ref a) args) (fun fin s'=>match fin with | .done f=>R (.ok f) s' | .again c'=>c'.quiet=true∧codeAny (model P w) A c' R s') (fun x s'=>R (.error x) s') s:=by
  unfold callAny
  refine wpAny_bind (wpAny_load at_ ?_)
  simp only[isf,callFunction,nco,ngen,isE,ek]
  refine wpAny_bind (m:=field (.ref k) 1) (wpAny_field hk1 hk2 hk3 (wpAny_bind (wpAny_pure (wpAny_bind (wpAny_mono go (fun bs s1 g1=>?_) fun _ _ z=>z)))))
  refine wpAny_bind (wpAny_mono g1 (fun env s2 g2=>?_) fun _ _ z=>z)
  exact wpAny_bind (wpAny_enterFrame g2.1 room (wpAny_pure ⟨rfl,g2.2⟩))
 exact codeAny_of_tree body
def kD (n:Nat)(fe:aa->Option PyData)(ds:List PyData):Option PyData:=if ds.length=n then fe (ds.map some) else none
theorem wF {k:Nat}{tag:Str}(hreg:Reg.reg tag=some L)(S:lg L)(fe:aa->Option PyData)
  (hbind:∀ (clos:List (Str×Addr)) (pm:Value) (c':Addr) (ctv:Value) (us:List Value),us.length=L.ps.length->bindArgs (PySem.W.kla_fn "<lambda>" L.qual L.params L.body L.scope clos pm (.ref c') ctv) ⟨us,[]⟩=pure (L.ps.zip us))
  (hbody:∀ (clos:List (Str×Addr)) (g c':Addr) (q:Str) (A:Around) (outer:List Env) (s:Shared) (H:Hp),ba k (A.deeper (nW L s.heap.objs.size clos g c' q))->PR (qR P w K mg base L clos g c' q A outer s H) O0 L.body fe) :
  iE P w K mg base (k+1) tag (kD (L.ps.length+L.free.length) fe):=by
 have at_:∀ {H:Hp} {g:Addr} {cv:List V},gM K H g tag cv->j2 H g L cv:=fun {H g cv} h=>by
  rcases h with ⟨z,_⟩ | ⟨L',e,h⟩
  ·rw[hreg] at z;cases z
  ·rw[hreg] at e;cases e;exact h
 refine⟨fun A outer s H g cv e0 h=>?_,fun A outer s H g cv us vs Q E hr e0 h r hs=>?_⟩
 ·obtain⟨clos,pm,c',ctv,oc,fs,q,t,φ,h1,_⟩:=at_ h
  exact PySem.W.keeps_F _ ⟨_,_,_,_,(e0.hok g _ h1).1⟩
 ·obtain⟨clos,pm,c',ctv,oc,fs,q,t,φ,h1,h2,h3,h4,h5,h6,h7,h8⟩:=at_ h
  obtain⟨hid,ds,rr,hh,D,hf,qq⟩:=id hs
  unfold kD at hf
  split at hf
  case isFalse=>cases hf
  rename_i hlen
  have hdl:=D.length
  have hcl:clos.length=L.free.length:=by rw[← h6,List.length_map]
  have hl:vs.length=L.ps.length:=by rw[List.length_append] at hdl;omega
  have hu:us.length=L.ps.length:=by rw[← r.length];exact hl
  have lim:s.heap.NoLimit:=e0.mod.nolimit.keeps fun b o e=>(e0.bs b o e).1
  refine BF hr.depth (e0.hok g _ h1).1 rfl S.co S.gen rfl ⟨c',oc,fs,t,rfl,(e0.hok c' _ h2).1,h3,h4⟩ ?_
  rw[hbind clos pm c' ctv us hu]
  refine wpAny_pure (wpAny_newFunctionEnv S.nocell (fun x hx=>S.par x.1 (List.of_mem_zip hx).1) (fun h' hns hsb=>⟨lim.fresh _ hsb,?_⟩) S.kind)
  have hk:∀ b o,s.heap.get? b=some o->h'.get? b=some o:=fun b o e=>hsb.extBut b o (Nat.ne_of_lt (Heap.lt_size e)) (Heap.get?_push_of_some _ e)
  have I:=DX (P:=P) (w:=w) (K:=K) (mg:=mg) (base:=base) (g:=g) (c':=c') (q:=q) (t:=s.toks+(L.ps.zip us).length) S hr.hd e0 hl h5 h6 h7 h8 r hns hk
  refine PySem.W.kla_codeExpr ?_
  have E0':aE K O0 hid H ((vs++cv).map some) H (ds.map some) []:=by
   refine⟨by simp[← hdl],fun b o e=>by rw[bb (by simp)];exact e,fun i d _ e=>?_,⟨fun _=>[],fun i t d hi=>(by cases hi),fun i j p _ z=>(by cases z),fun i p z=>(by cases z)⟩,fun l z=>(by cases z),hh,fun _=>rfl⟩
   rw[List.getElem?_map] at e
   cases e1:ds[i]? with
   | none=>rw[e1] at e;cases e
   | some d'=>
    rw[e1] at e
    cases e
    obtain⟨v,a1,a2⟩:=D.get e1
    exact⟨v,by rw[List.getElem?_map,a1];rfl,by rw[gF];exact a2⟩
  refine wpAny_mono (hbody clos g c' q A outer s H (hr.deeper _) [] _ _ H Q I ⟨hid,H,ds.map some,[],rr,E0',hf,fun v H' s' D'=>qq v [] H' s' (fun p hp=>by cases hp) (.cl (by rw[gF];exact D'))⟩) (fun u s' hs=>?_) fun e s' z=>z.elim
  obtain⟨v,H',J,rv,qv⟩:=hs
  exact ⟨v,H',J.os,J.bare,J.base,J.hok,rv,qv⟩
end
theorem Be {pos:Pos}{a b:Int}{c v:Value}(l:List Value)(h1:TriplesOk l)(h:codeAmong pos (l++[rawInt a,rawInt b,c])=some v):codeAmong pos l=some v∨v=c:=by
 fun_induction TriplesOk l with
 | case1=>
  rw[List.nil_append] at h
  unfold rawInt codeAmong at h
  split at h
  ·exact .inr (Option.some.inj h).symm
  ·exact L2.aQ h
 | case2 a' t b' u x rest ih=>
  rw[List.cons_append,List.cons_append,List.cons_append] at h
  unfold codeAmong at h ⊢
  split at h
  ·rename_i hc
   rw[if_pos hc]
   exact .inl h
  ·rename_i hc
   rw[if_neg hc]
   exact ih h1 h
 | case3 l g1 g2=>exact h1.elim
section
variable {X:Cx}
def Made (H:Hp)(L:dI)(clos:List (Str×Addr))(g:Addr):Prop:=
 ∃ (pm:Value) (c':Addr) (ctv:Value) (oc:Obj) (vs:Array Value) (q:Str) (t:Tok) (φ:HO),H g=some (fz g (PySem.W.kla_obj "<lambda>" L.qual L.params L.body L.scope clos pm c' ctv))∧H c'=some (.frz oc φ)∧oc.data=.fields vs∧vs[1]?=some (.str q t)
theorem Made.mono {H H':Hp}{L:dI}{clos:List (Str×Addr)}{g:Addr}(e:aj H H')(h:Made H L clos g):Made H' L clos g:=by
 obtain⟨pm,c',ctv,oc,vs,q,t,φ,h1,h2,h3⟩:=id h
 exact ⟨pm,c',ctv,oc,vs,q,t,φ,e _ _ h1,e _ _ h2,h3⟩
def JH (L:dI)(clos:List (Str×Addr)):TE:=fun _ H Q=>∀ g H',aj H H'->H g=none->Made H' L clos g->Q (.ref g) H'
theorem lJ {P:Program}{w:World}{H:Hp}{h:Heap}{a:Addr}{o:Obj}(e:h.get? a=some o):c9 P w H h a (fz a o):=⟨e,e,⟨o,e⟩,fun h1 h2 z k=>k o z⟩
theorem Gz {L:dI}{x:Str}{c p:Addr}{pos:Pos}(hx:x∈cS X.prog)(hT:PySem.W.tabIn X.K x=some (c,p))(hcode:X.env.code=.ref c)(hq:X.env.qual++"<lambda>"=L.qual)(hd:defaultsOf L.params X.env=([],[]))
  (hcl:closureFor L.scope X.env=pure (bR L.scope X.env)):PE X (.Lambda L.params L.body L.scope pos) (JH L (bR L.scope X.env)):=by
 intro pins s σ H Q I h
 refine PySem.W.kla_eval hd ?_
 rw[hq]
 obtain⟨ht0,hch0,hbt0⟩:=I.ok.tabs x c p hx hT
 have ht:=I.base.tabs p ht0
 have hch:=hch0.keeps I.bk
 have hbt:s.heap.BuiltinsAt X.mg p:=by
  obtain⟨bm,ob,b1,b2,b3,b4,b5,b6⟩:=id hbt0
  exact ⟨bm,ob,b1,b2,b3,b4,I.bk _ _ b5,b6⟩
 obtain⟨ps,hP,htr,hco⟩:=I.hok p _ ht
 have hg:s.heap.Ns mainGlobals X.mg:=I.mod.glob.keeps I.bk
 cases hm:codeAmong pos ps.toList with
 | some cv=>
  obtain⟨c',oc,vs,q,t,φ,zq6,g1,g2,g3⟩:=hco pos cv hm
  subst zq6
  refine PySem.W.kla_makeFunctionHit hcl I.ok.glob hg hcode hch hP htr hm hbt fun ctv h' tk hk hsz=>?_
  have hfr:H h'.objs.size=none:=I.hok.fresh hsz
  have I':=I.laid (t':=tk) (a:=h'.objs.size) (o:=fz h'.objs.size (PySem.W.kla_obj "<lambda>" L.qual L.params L.body L.scope (bR L.scope X.env) ((X.mg "__name__").getD .none) c' ctv)) (h':=h'.push (PySem.W.kla_obj "<lambda>" L.qual L.params L.body L.scope (bR L.scope X.env) ((X.mg "__name__").getD .none) c' ctv))
   (fun b u e=>Heap.get?_push_of_some _ (hk b u e)) hsz (lJ (Heap.get?_push_size _ rfl))
  exact⟨.ref h'.objs.size,_,I',rfl,h _ _ (bK hfr) hfr ⟨_,c',ctv,oc,vs,q,t,φ,bC,bK hfr _ _ g1,g2,g3⟩⟩
 | none=>
  have hgP:mainGlobals≠p:=fun e=>by
   obtain⟨o,es,ep,e1,e2,_⟩:=id hg
   rw[e,hP] at e1
   obtain rfl:=Option.some.inj e1
   cases e2
  refine PySem.W.kla_makeFunction hcl I.ok.glob hg hcode hch hP htr hm hgP hbt fun c' ctv h' tk hx hge hlt hrec htb=>?_
  obtain⟨c2,oc,vs,t,e2,hoc,hdd,hv⟩:=id hrec
  cases e2
  generalize hob:PySem.W.kla_obj "<lambda>" L.qual L.params L.body L.scope (bR L.scope X.env) ((X.mg "__name__").getD .none) c' ctv=ob
  have hnf:ob.isFreed=false:=by rw[← hob];rfl
  have hsz:s.heap.objs.size≤h'.objs.size:=Nat.le_trans hge (Nat.le_of_lt hlt)
  have f1:H c'=none:=I.hok.fresh hge
  have f2:H h'.objs.size=none:=I.hok.fresh hsz
  have ne12:h'.objs.size≠c':=Nat.ne_of_gt hlt
  have f2':upd H c' (fz c' oc) h'.objs.size=none:=by rw[aD ne12];exact f2
  have sm:aj H (upd (upd H c' (fz c' oc)) h'.objs.size (fz h'.objs.size ob)):=(bK f1).trans (bK f2')
  have old:∀ b o,b≠p->s.heap.get? b=some o->(h'.push ob).get? b=some o:=fun b o n e=>Heap.get?_push_of_some _ (hx b o n e)
  have np:∀ b,H b=none->b≠p:=fun b e z=>by rw[z,ht] at e;cases e
  have nw:∀ b o,s.heap.get? b=some o->b≠c'∧b≠h'.objs.size:=fun b o e=>⟨Nat.ne_of_lt (Nat.lt_of_lt_of_le (Heap.lt_size e) hge),Nat.ne_of_lt (Nat.lt_of_lt_of_le (Heap.lt_size e) hsz)⟩
  have hp2:(h'.push ob).get? p=some (PySem.W.tabObj (ps++#[rawInt pos.line,rawInt pos.col,.ref c'])):=Heap.get?_push_of_some _ htb
  have I':Inv X pins σ (upd (upd H c' (fz c' oc)) h'.objs.size (fz h'.objs.size ob)) {s with heap:=h'.push ob,toks:=tk}:=by
   refine I.step (g':=s.gens) (d':=s.drawn) (ch:=[]) (fun _ z=>nomatch z) (fun b o _ _ _ e n=>old b o (np b n) e) (fun b o _ _ _ e n=>⟨o.slots,old b o (np b n) e⟩) (fun b o _ e n=>?_) (fun b o _ e=>?_)
    (fun b ys e=>sm _ _ e) (fun b o ys e=>sm _ _ e) (fun b ys e=>⟨#[],by rw[sm _ _ e];simp⟩) (fun b e=>sm _ _ e) (fun m hm'=>(hm'.extBut hx (np _ I.free)).push _) (fun b u e=>?_) I.bare
   ·rw[aD (nw b o e).2,aD (nw b o e).1];exact n
   ·by_cases hb:b=p
    ·exact⟨_,by rw[hb];exact hp2⟩
    ·exact⟨o,old b o hb e⟩
   ·by_cases hb:b=h'.objs.size
    ·subst hb
     rw[bC] at e
     obtain rfl:=Option.some.inj e
     exact lJ (Heap.get?_push_size _ hnf)
    ·rw[aD hb] at e
     by_cases hb2:b=c'
     ·subst hb2
      rw[bC] at e
      obtain rfl:=Option.some.inj e
      exact lJ (Heap.get?_push_of_some _ hoc)
     ·rw[aD hb2] at e
      by_cases hb3:b=p
      ·subst hb3
       rw[ht] at e
       obtain rfl:=Option.some.inj e
       refine⟨_,hp2,by rw[Array.toList_append];exact TriplesOk_snoc _ _ _ _ htr,fun ps' cc z=>?_⟩
       rw[Array.toList_append] at z
       rcases Be _ htr z with z | z
       ·obtain⟨c3,o3,v3,q3,t3,φ3,a1,a2,a3⟩:=hco ps' cc z
        exact ⟨c3,o3,v3,q3,t3,φ3,a1,sm _ _ a2,a3⟩
       ·exact ⟨c',oc,vs,_,t,_,z,(by rw[aD (Ne.symm ne12),bC];rfl),hdd,hv⟩
      ·refine (I.hok b u e).stay (fun d o' hc e'=>old d o' ?_ e') (fun d e'=>sm _ _ e') (fun d ys e'=>sm _ _ e') fun d o' ys _ _ e'=>sm _ _ e'
       rcases hc with rfl | hc
       ·exact hb3
       ·rintro rfl
        rw[ht] at hc;cases hc
  refine⟨.ref h'.objs.size,_,I',rfl,h _ _ sm f2 ⟨(X.mg "__name__").getD .none,c',ctv,oc,vs,_,t,_,?_,by rw[aD (Ne.symm ne12),bC];rfl,hdd,hv⟩⟩
  rw[bC,← hob]
end
def eT (h:Heap)(H:Hp)(cs:List Addr):Hp:=fun b=>if b∈cs then (h.get? b).map (fz b) else H b
def jA (H:Hp)(cs:List Addr):Hp:=fun b=>if b∈cs then none else H b
section
variable {X:Cx}{O:Ow}
theorem Iw {k:Nat}{f:Addr}{fd:FuncData}{ps:List Str}{sp:Sp}{pins:List (Addr×Obj)}{σ:St}{H:Hp}{s:Shared}{Q:VK}{us:List Value}{vs:List V}(F:aS X.prog X.w X.K X.mg X.base bc k f fd ps sp)(hr:ba k X.A)(hb:Binds X.K fd ps [])(I:Inv X pins σ H s)(r:aG vs us)(cs:List Addr)
  (hcs:∀ c∈cs,H c=none∧X.s₀.heap.objs.size≤c∧c≠X.env.locals∧∃ o u,s.heap.get? c=some o∧o.data=.cell u)
  (h:sp vs (eT s.heap H cs) (fun v H'=>Q v (jA H' cs)) E0):wpAny (model X.prog X.w) X.A (call (.ref f) us) (EP X pins σ Q) X.xe s:=by
 have wc:∀ c∈cs,∃ o u,eT s.heap H cs c=some (fz c o)∧s.heap.get? c=some o∧o.data=.cell u:=fun c hc=>by
  obtain⟨_,_,_,o,u,e,d⟩:=hcs c hc
  exact ⟨o,u,(by unfold eT;rw[if_pos hc,e];rfl),e,d⟩
 have wo:∀ b,b∉cs->eT s.heap H cs b=H b:=fun b hb=>if_neg hb
 have nin:∀ b u,H b=some u->b∉cs:=fun b u e z=>by rw[(hcs b z).1] at e;cases e
 have sm:aj H (eT s.heap H cs):=fun b o e=>by rw[wo b (nin b o e)];exact e
 have hok:cb X.prog X.w (eT s.heap H cs) s.heap:=fun b o e=>by
  by_cases hb:b∈cs
  ·obtain⟨ob,u,e1,e2,_⟩:=wc b hb
   rw[e1] at e
   obtain rfl:=Option.some.inj e
   exact lJ e2
  ·rw[wo b hb] at e
   exact (I.hok b o e).stay (fun c v _ q=>q) (fun c q=>sm _ _ q) (fun c ys q=>sm _ _ q) fun c ob ys _ _ q=>sm _ _ q
 have low:∀ b,b<X.s₀.heap.objs.size->b∉cs:=fun b hb z=>absurd (Nat.lt_of_lt_of_le hb (hcs b z).2.1) (Nat.lt_irrefl _)
 have i0:=I.env0
 have frn:∀ b∈cG X.stack,b∉cs:=fun b hb=>by
  rcases List.mem_cons.mp (I.stkSub b hb) with e | hb
  ·intro z;exact (hcs b z).2.2.1 e
  ·obtain⟨_,o,ho,_⟩:=I.ok.funs.mem hb
   exact low b (Heap.lt_size ho)
 have e0:dH X.prog X.w X.K X.mg X.base X.A X.stack s (eT s.heap H cs):=
  ⟨i0.frames,i0.mod,fun b o e=>⟨(i0.bs b o e).1,by rw[wo b (low b (Nat.lt_of_lt_of_le (Heap.lt_size e) I.ok.bsz))];exact (i0.bs b o e).2⟩,i0.bsz,i0.funs,fun b hb=>by rw[wo b (frn b hb)];exact i0.frf b hb,hok,i0.bare,fun x c p h1 h2=>let z:=i0.tabs x c p h1 h2;⟨sm _ _ z.1,z.2⟩⟩
 have hl:(us++([]:List Value)).length=ps.length:=by rw[List.append_nil,← r.length];exact F.len _ _ _ _ h
 have hb':=hb s us I.kIn hl
 rw[List.append_nil] at hb'
 refine wpAny_call (codeAny_mono (F.run X.A X.stack s (eT s.heap H cs) ⟨us,[]⟩ us vs _ E0 hr e0 hb' r h) fun r s' hq=>?_)
 cases r with
 | error e=>exact (hq:False).elim
 | ok fl=>
  cases fl with
  | next=>exact False.elim hq
  | brk=>exact False.elim hq
  | cont=>exact False.elim hq
  | ret u=>
   obtain⟨v,H',os,bare,un,hok',rv,q⟩:=id hq
   have wc':∀ c∈cs,∃ o u,H' c=some (fz c o)∧s.heap.get? c=some o∧s'.heap.get? c=some o∧o.data=.cell u:=fun c hc=>by
    obtain⟨o,u,e1,e2,e3⟩:=wc c hc
    have e4:=un.frzs c o _ e1
    exact ⟨o,u,e4,e2,(hok' c _ e4).1,e3⟩
   have no:∀ b,b∉cs->jA H' cs b=H' b:=fun b hb=>if_neg hb
   have nofr:∀ {b:Addr} {o:HO},H' b=some o->(∀ ob ub v,ob.data=.cell v->o≠.frz ob ub)->b∉cs:=fun {b o} e n z=>by
    obtain⟨ob,u,e1,_,_,e2⟩:=wc' b z
    rw[e] at e1
    exact n ob _ u e2 (Option.some.inj e1)
   refine I.after ⟨v,jA H' cs,os,bare,⟨fun b o e n hb hx=>?_,fun b o e n hb hx=>?_,fun b o e n hx=>?_,un.there,fun b xs e=>?_,fun b o ub e=>?_,fun b ps e=>?_,fun b e=>?_⟩,fun b o e=>?_,rv,q⟩
   ·by_cases hc:b∈cs
    ·obtain⟨o',_,_,e1,e2,_⟩:=wc' b hc
     rw[e] at e1;cases e1
     exact e2
    ·exact un.keep b o e (by rw[wo b hc];exact n) hb hx
   ·exact un.slot b o e (by rw[wo b (frn b hb)];exact n) hb hx
   ·by_cases hc:b∈cs
    ·exact if_pos hc
    ·rw[no b hc]
     exact un.free b o e (by rw[wo b hc];exact n) hx
   ·rw[no b (nin b _ e)];exact un.tups b xs (sm _ _ e)
   ·rw[no b (nin b _ e)];exact un.frzs b o ub (sm _ _ e)
   ·rw[no b (nin b _ e)];exact un.tbls b ps (sm _ _ e)
   ·rw[no b (nin b _ e)];exact un.tabs b (sm _ _ e)
   ·have hc:b∉cs:=fun z=>by
     have e':jA H' cs b=none:=if_pos z
     rw[e'] at e;cases e
    rw[no b hc] at e
    refine (hok' b o e).stay (fun c v _ q=>q) (fun c q=>?_) (fun c ys q=>?_) fun c ob ys fs hf q=>?_
    ·rw[no c (nofr q fun _ _ _ _ z=>by cases z)];exact q
    ·rw[no c (nofr q fun _ _ _ _ z=>by cases z)];exact q
    ·rw[no c (nofr q fun ob2 ub v hv z=>by cases z;rw[hf] at hv;cases hv)];exact q
def nf:PyData->Bool
 | .dict _=>false
 | .list ds=>go ds
 | .tuple ds=>go ds
 | _=>true
where go:List PyData->Bool
 | []=>true
 | d::r=>nf d&&go r
theorem cn.sub {K:PySem.W.Frag}{G G':Hp}(e:∀ a o,G a=some o->(∀ ob φ,o≠.frz ob (.ext φ))->G' a=some o){a:Addr}{vs:List V}(q:cn K G a vs):cn K G' a vs:=by
 rcases q with (q | ⟨o,q⟩) | q
 ·exact .inl (.inl (e _ _ q fun _ _ z=>by cases z))
 ·exact .inl (.inr ⟨o,e _ _ q fun _ _ z=>by cases z⟩)
 ·exact .inr q
theorem aN.sub {K:PySem.W.Frag}{G G':Hp}(e:∀ a o,G a=some o->(∀ ob φ,o≠.frz ob (.ext φ))->G' a=some o){a:Addr}{vs:List V}(q:aN K G a vs):aN K G' a vs:=by
 rcases q with (q | ⟨o,q⟩) | q
 ·exact .inl (.inl (e _ _ q fun _ _ z=>by cases z))
 ·exact .inl (.inr ⟨o,e _ _ q fun _ _ z=>by cases z⟩)
 ·exact .inr q
theorem az.sub {K:PySem.W.Frag}{G G':Hp}(e:∀ a o,G a=some o->(∀ ob φ,o≠.frz ob (.ext φ))->G' a=some o){v:V}{d:PyData}(z:az K G v d):nf d=true->az K G' v d:=
 az.rec (motive_1:=fun v d _=>nf d=true->az K G' v d) (motive_2:=fun vs ds _=>nf.go ds=true->ar K G' vs ds) (fun _=>.non) (fun b _=>.bl b) (fun i _=>.int i) (fun x _=>.str x) (fun q _ r h=>.tup (q.sub e) (r h)) (fun q _ r h=>.lst (q.sub e) (r h)) (fun _ _ _ h=>by cases h) (fun _ _ _ h=>by cases h) (fun _ _ _ h=>by cases h) (fun _=>.nil) (fun _ _ a b h=>by rw[nf.go,Bool.and_eq_true] at h;exact .cons (a h.1) (b h.2)) z
theorem ar.sub {K:PySem.W.Frag}{G G':Hp}(e:∀ a o,G a=some o->(∀ ob φ,o≠.frz ob (.ext φ))->G' a=some o){vs:List V}{ds:List PyData}(z:ar K G vs ds):nf.go ds=true->ar K G' vs ds:=
 ar.rec (motive_1:=fun v d _=>nf d=true->az K G' v d) (motive_2:=fun vs ds _=>nf.go ds=true->ar K G' vs ds) (fun _=>.non) (fun b _=>.bl b) (fun i _=>.int i) (fun x _=>.str x) (fun q _ r h=>.tup (q.sub e) (r h)) (fun q _ r h=>.lst (q.sub e) (r h)) (fun _ _ _ h=>by cases h) (fun _ _ _ h=>by cases h) (fun _ _ _ h=>by cases h) (fun _=>.nil) (fun _ _ a b h=>by rw[nf.go,Bool.and_eq_true] at h;exact .cons (a h.1) (b h.2)) z
def iK:List Nat->aa->Option (List PyData)
 | [],_=>some []
 | i::r,ρ=>af ((ρ[i]?).join) (iK r ρ)
theorem vC {K:PySem.W.Frag}{hid:Addr->Prop}{H0 H:Hp}{σ:St}{ρ:aa}{ow:List Addr}(E:aE K O hid H0 σ H ρ ow):∀ (ix:List Nat) (caps:List PyData),iK ix ρ=some caps->∃ cv:List V,cv.length=ix.length∧ar K (ah H hid) cv caps∧∀ (j i:Nat) (v:V),ix[j]?=some i->cv[j]?=some v->σ[i]?=some (some v)
 | [],caps,h=>by
  obtain rfl:=Option.some.inj h
  exact⟨[],rfl,.nil,fun j i v h=>by simp at h⟩
 | i::r,caps,h=>by
  obtain⟨d,h1,h⟩:=bind_some h
  obtain⟨ds,h2,rfl⟩:=map_some h
  obtain⟨cv,g1,g2,g3⟩:=vC E r ds h2
  obtain⟨v,a1,a2⟩:=E.raw (join_some h1)
  refine⟨v::cv,by simp[g1],.cons a2 g2,fun j i' v' e1 e2=>?_⟩
  cases j with
  | zero=>simp at e1 e2;subst e1;subst e2;exact a1
  | succ j=>exact g3 j i' v' (by simpa using e1) (by simpa using e2)
theorem yi:∀ {l:List (Str×Addr)},(l.map (fun z=>z.1)).Nodup->(∀ x y c,(x,c)∈l->(y,c)∈l->x=y)->(l.map (fun z=>z.2)).Nodup
 | [],_,_=>List.nodup_nil
 | z::r,nd,h=>by
  rw[List.map_cons,List.nodup_cons] at nd ⊢
  refine⟨fun hm=>?_,yi nd.2 fun x y c h1 h2=>h x y c (List.mem_cons_of_mem _ h1) (List.mem_cons_of_mem _ h2)⟩
  obtain⟨y,hy,e⟩:=List.mem_map.mp hm
  have:=h y.1 z.1 z.2 (List.mem_cons_of_mem _ (by rw[← e];exact hy)) List.mem_cons_self
  exact nd.1 (List.mem_map.mpr ⟨y,hy,this⟩)
structure A2 (X:Cx)(L:dI)(ix:List Nat):Prop where
 tab:∃ y c p,y∈cS X.prog∧PySem.W.tabIn X.K y=some (c,p)∧X.env.code=.ref c
 qual:X.env.qual++"<lambda>"=L.qual
 dfl:defaultsOf L.params X.env=([],[])
 cell:∀ x∈L.free,X.env.scope.names.lookup x=some .cell
 fn:∀ x∈L.free,X.fn x=true
 sl:ix.map (fun i=>X.N[i]?)=L.free.map some
theorem xB {K:PySem.W.Frag}{y:Str}{f:Addr}{cdv:Value}{P:Program}(hy:y∈cS P)(ht:(PySem.W.tabIn K y).isSome=true)(hn:PySem.W.nsIn K mainGlobals y=some (some (.ref f)))(hk:kX K f cdv):∃ y c p,y∈cS P∧PySem.W.tabIn K y=some (c,p)∧cdv=.ref c:=by
 obtain⟨⟨c,p⟩,e⟩:=Option.isSome_iff_exists.mp ht
 revert hk
 refine fun zqq=>L2.Fo zqq fun oc od fd osl lk zq5=>?_
 clear zqq
 subst zq5
 refine ⟨y,c,p,hy,e,?_⟩
 unfold PySem.W.tabIn at e
 rw[hn] at e
 simp only[lk] at e
 split at e
 ·rename_i c2 hc
  split at e
  ·split at e
   ·cases e;exact hc
   ·exact L2.aQ e
  ·exact L2.aQ e
 ·exact L2.aQ e
theorem zf {L:dI}{tag x:Str}{p lpos pos:Pos}{es:List Expr}{k:Nat}{ps:List Str}{T:Ty}{F:List PyData->Option PyData}{fs:aa->Option (List PyData)}(ix:List Nat)(hreg:Reg.reg tag=some L)(S:lg L)(M:A2 X L ix)
  (G:aW X.prog X.w X.K X.mg X.base k x ps T F) (hr:ba k X.A) (hg:Gl X x) (ha:fj X O es fs) (hdb:(x==("__debug__":Str))=false:=by decide)
  (he:starEach (.Lambda L.params L.body L.scope lpos::es) X.env=(false,eval (.Lambda L.params L.body L.scope lpos) X.env)::starEach es X.env:=by rfl) (hpl:(backTo pos (starEach es X.env)).any (·.1)=false:=by rfl) :
  PR X O (.Call (.Name x p) (.Lambda L.params L.body L.scope lpos::es) [] pos) (fun ρ=>((iK ix ρ).bind fun cs=>(fs ρ).bind fun ds=>F (clo tag cs::ds)).filter nf):=by
 intro pins s σ H Q I ⟨hid,H0,ρ,ow,r,E,hf,q⟩
 obtain⟨hf,hnf⟩:=Option.filter_eq_some_iff.mp hf
 obtain⟨caps,hc,hf⟩:=bind_some hf
 obtain⟨ds,h1,h2⟩:=bind_some hf
 obtain⟨f,fd,F1,F2,F3,F4,_⟩:=id G
 obtain⟨y,c,p0,t1,t2,t3⟩:=M.tab
 have fre:∀ z∈L.scope.names,z.2=.free->z.1∈L.free:=fun z hz e=>by
  rw[← S.fr]
  exact List.mem_reverse.mpr (List.mem_map.mpr ⟨z,List.mem_filter.mpr ⟨hz,by rw[e];rfl⟩,rfl⟩)
 have hcl:∀ z∈L.scope.names,z.2=.free->∃ c,X.env.cells.lookup z.1=some c:=fun z hz e=>I.ok.has z.1 (.inl (M.cell z.1 (fre z hz e)))
 have names:(bR L.scope X.env).map (fun z=>z.1)=L.free:=by
  rw[← S.fr]
  have:=vK (env:=X.env) L.scope.names []
  simpa [bR] using this
 have lookc:∀ (j:Nat) (z:Str×Addr),(bR L.scope X.env)[j]?=some z->X.env.cells.lookup z.1=some z.2:=fun j z e=>iL hcl (rK (by rw[names];exact S.ndf) e)
 have inF:∀ z∈bR L.scope X.env,z.1∈L.free:=fun z hz=>by rw[← names];exact List.mem_map.mpr ⟨z,hz,rfl⟩
 have lookm:∀ z∈bR L.scope X.env,X.env.cells.lookup z.1=some z.2:=fun z hz=>by
  obtain⟨j,e⟩:=List.getElem?_of_mem hz
  exact lookc j z e
 have ndc:((bR L.scope X.env).map (fun z=>z.2)).Nodup:=yi (by rw[names];exact S.ndf) fun x y c a b=>I.ok.inj x y c (lookm _ a) (lookm _ b)
 refine wpAny_Call_Name_kw (jx I hg F2 ?_ hdb)
 have A1:=(pa_cons (Gz (pos:=lpos) t1 t2 t3 M.qual M.dfl (vM hcl)) ha he) pos pins s σ H (fun vs H2=>∃ g ws,vs=.ref g::ws∧aj H H2∧H g=none∧Made H2 L (bR L.scope X.env) g∧ar X.K (ah H2 hid) ws ds) I
  (fun g H1 s1 n1 m1=>⟨hid,H0,ρ,ow,ds,E.mono s1,h1,fun ws H2 s2 D2=>⟨g,ws,rfl,s1.trans s2,n1,m1.mono s2,D2⟩⟩)
 refine PySem.W.callWith_K (h₀:=X.base) I.ok.mod.kin F3 (aI A1 fun us s1 ⟨vs,H1,I1,rr,g,ws,e,sm,ng,md,D⟩=>⟨I1.kIn,?_⟩) he hpl
 subst e
 have E1:=E.mono sm
 obtain⟨cv,cl,cd,cs⟩:=vC E1 ix caps hc
 have lens:ix.length=L.free.length:=by have:=congrArg List.length M.sl;simpa using this
 have lenc:(bR L.scope X.env).length=L.free.length:=by rw[← names,List.length_map]
 -- what stands in the cells
 have inC:∀ (j:Nat) (z:Str×Addr) (v:V),(bR L.scope X.env)[j]?=some z->cv[j]?=some v->∃ u o,s1.heap.get? z.2=some o∧o.data=.cell (some u)∧RelV v u:=fun j z v e1 e2=>by
  have hj:j<ix.length:=by rw[← cl];exact (List.getElem?_eq_some_iff.mp e2).1
  have e3:=List.getElem?_eq_getElem hj
  have hN:X.N[ix[j]]?=some z.1:=by
   have a1:(ix.map (fun i=>X.N[i]?))[j]?=some (X.N[ix[j]]?):=by rw[List.getElem?_map,e3];rfl
   have a2:(L.free.map some)[j]?=some (some z.1):=by rw[← names,List.getElem?_map,List.getElem?_map,e1];rfl
   rw[M.sl,a2] at a1
   exact (Option.some.inj a1).symm
  have hk:X.env.scope.names.lookup z.1=some .cell:=M.cell z.1 (inF z (List.mem_of_getElem? e1))
  obtain⟨m,hn,hl⟩:=I1.loc
  obtain⟨u,rv,lk⟩:=hl ix[j] z.1 v hN (cs j _ v e3 e2) (.inr (.inl hk))
  rcases lk with ⟨k1,_⟩ | ⟨_,c2,k2,o,k3,k4⟩
  ·have k1':X.env.scope.names.lookup z.1=some .local:=k1
   rw[hk] at k1';cases k1'
  ·rw[lookc j z e1] at k2
   obtain rfl:=Option.some.inj k2
   exact ⟨u,o,k3,k4,rv⟩
 have hcs:∀ c∈(bR L.scope X.env).map (fun z=>z.2),H1 c=none∧X.s₀.heap.objs.size≤c∧c≠X.env.locals∧∃ o u,s1.heap.get? c=some o∧o.data=.cell u:=fun c hc=>by
  obtain⟨z,hz,zq2⟩:=List.mem_map.mp hc
  subst zq2
  have lk:=lookm z hz
  have fnz:=M.fn z.1 (inF z hz)
  obtain⟨v,o,e1,e2⟩:=I1.cell z.1 z.2 lk
  exact ⟨((I1.freeC z.1 z.2 lk).resolve_right (fun w=>by have w1:=w.1;rw[fnz] at w1;cases w1)),I.ok.cab z.1 z.2 fnz lk,I.cne z.1 z.2 lk,o,v,e1,e2⟩
 have nin:∀ b u,H1 b=some u->b∉(bR L.scope X.env).map (fun z=>z.2):=fun b u e z=>by rw[(hcs b z).1] at e;cases e
 have smC:aj H1 (eT s1.heap H1 ((bR L.scope X.env).map (fun z=>z.2))):=fun b o e=>by unfold eT;rw[if_neg (nin b o e)];exact e
 have nh:∀ b,H1 b=none->¬ hid b:=fun b e z=>E1.ish b z e
 have nhz:∀ b ob ub,H1 b=some (.frz ob ub)->¬ hid b:=fun b ob ub e z=>by
  obtain⟨vs,e2⟩:=E1.ishL b z
  rw[e] at e2;cases vs <;> cases e2
 have LA:j2 (ah (eT s1.heap H1 ((bR L.scope X.env).map (fun z=>z.2))) hid) g L cv:=by
  obtain⟨pm,c',ctv,oc,fs',q',t',φ,a1,a2,a3,a4⟩:=id md
  refine ⟨bR L.scope X.env,pm,c',ctv,oc,fs',q',t',φ,?_,?_,a3,a4,(by omega),names,ndc,(fun j z v e1 e2=>?_)⟩
  ·rw[bb (nhz g _ _ a1)];exact smC _ _ a1
  ·rw[bb (nhz c' _ _ a2)];exact smC _ _ a2
  ·obtain⟨u,o,b1,b2,b3⟩:=inC j z v e1 e2
   have hz:z.2∈(bR L.scope X.env).map (fun z=>z.2):=List.mem_map.mpr ⟨z,List.mem_of_getElem? e1,rfl⟩
   refine ⟨u,o,?_,b2,b3⟩
   rw[bb (nh z.2 (hcs z.2 hz).1)]
   unfold eT
   rw[if_pos hz,b1]
   rfl
 refine Iw F1 hr F4 I1 rr ((bR L.scope X.env).map (fun z=>z.2)) hcs ⟨hid,clo tag caps::ds,r,fun b hb=>?_,.cons (.fn (.inr ⟨L,hreg,LA⟩) (cd.mono (aY smC _))) (D.mono (aY smC _)),h2,fun v as H2 s2 n2 D2=>?_⟩
 ·obtain⟨ls,e⟩:=E1.ishL b hb
  exact⟨ls,smC _ _ e⟩
 ·have sm2:aj H1 (jA H2 ((bR L.scope X.env).map (fun z=>z.2))):=fun b o e=>by unfold jA;rw[if_neg (nin b o e)];exact s2 _ _ (smC _ _ e)
  refine q v _ (sm.trans sm2) ?_
  have D3:az X.K (ah H2 hid) v r:=D2.raw (fq _ _ _) fun b hb o e=>by
   rw[bb fun z=>?_]
   ·exact e
   ·obtain⟨ls,e2⟩:=E1.ishL b z
    have:=n2 b hb
    rw[smC _ _ e2] at this
    exact L2.yh this
  refine D3.sub (fun b o e n=>?_) hnf
  by_cases hh:hid b
  ·rw[de hh] at e;cases e
  ·rw[bb hh] at e ⊢
   unfold jA
   rw[if_neg fun z=>?_]
   ·exact e
   ·obtain⟨_,_,_,ob,u,e1,_⟩:=hcs b z
    have e2:eT s1.heap H1 ((bR L.scope X.env).map (fun z=>z.2)) b=some (fz b ob):=by unfold eT;rw[if_pos z,e1];rfl
    have e3:=s2 _ _ e2
    rw[e] at e3
    exact n _ _ (Option.some.inj e3)
end
end L2
namespace L2
open Sem (wp)
variable [Reg]
section
variable {M:Model}{A:Around}{E:Value->Shared->Prop}{s:Shared}{env:Env}{outer:List Env}{base:Heap}{L e:Addr}{oe:Obj}{vs:Array Value}{Q:Unit->Shared->Prop}
structure jj (fs:List Addr)(e:Addr)(oe:Obj)(fl:Value)(h h':Heap):Prop where
 exc:h'.get? e=some (oe.mapFields (·.setIfInBounds 1 (.ref h.objs.size)))
 tb:∃ oT ts,h'.get? h.objs.size=some oT∧oT.data=.fields ts∧ts[3]?=some fl
 keep:∀ b o,b≠e->b∉fs->h.get? b=some o->h'.get? b=some o
 slot:∀ b o,b≠e->h.get? b=some o->∃ sl,h'.get? b=some {o with slots:=sl}
theorem z5 {head:Value}{hadNext:Bool}(hfr:A.frames=some (env::outer))(hl:s.heap.FunFrames base (env::outer))(hf:env.frame=some L)
  (he:s.heap.get? e=some oe) (hd:oe.data=.fields vs) (hsz:1<vs.size)
  (h:∀ h',jj ((env::outer).filterMap (·.frame)) e oe (rawInt L) s.heap h'->Q () {s with heap:=h' }) :
  wpAny M A (do let a ← frameOf env;let pl ← entryPlaceOf L hadNext;let b ← EntryCells.newEntry head a .none (rawInt L) .none pl;setField (.ref e) 1 b) Q E s:=by
 have hene:e∉(env::outer).filterMap (·.frame):=fun hm=>by
  obtain⟨_,o,ho,hnf⟩:=hl.mem hm
  rw[he] at ho;injection ho with ho;subst ho;exact hnf vs hd
 refine wpAny_bind (wpAny_frameOf_fun hfr hl hf fun h₁ hs₁=>?_)
 refine wpAny_bind (wpAny_entryPlaceOf fun pl hpl=>?_)
 unfold EntryCells.newEntry newFields
 refine wpAny_bind (wpAny_newObj_type ?_ (hpl.sizeOk5 _ _ _ _ _))
 have he₁:h₁.get? e=some oe:=(hs₁.2.1 e hene).trans he
 have he₂:=Heap.get?_push_of_some (h:=h₁) {cls:=.type "traceback",dict:=none,data:=.fields ([head,.ref L,.none,rawInt L,.none]++(if pl.isEmpty then List.replicate 6 Value.none else pl)).toArray} he₁
 refine wpAny_setField he₂ hd hsz (h _ ?_)
 have hTe:h₁.objs.size≠e:=Nat.ne_of_gt (Heap.lt_size he₁)
 have hd₃:=Obj.data_mapFields hd (·.setIfInBounds 1 (Value.ref h₁.objs.size))
 have he₃:=Heap.get?_update_self (Obj.mapFields (·.setIfInBounds 1 (Value.ref h₁.objs.size))) he₂ (Obj.isFreed_of_fields hd₃)
 have hT₃:=(Heap.get?_update_other (h₁.push {cls:=.type "traceback",dict:=none,data:=.fields ([head,.ref L,.none,rawInt L,.none]++(if pl.isEmpty then List.replicate 6 Value.none else pl)).toArray})
  (Obj.mapFields (·.setIfInBounds 1 (Value.ref h₁.objs.size))) (Ne.symm hTe)).trans (Heap.get?_push_size h₁ rfl)
 have keep:∀ b o,b≠e->h₁.get? b=some o ->
   ((h₁.push {cls:=.type "traceback",dict:=none,data:=.fields ([head,.ref L,.none,rawInt L,.none]++(if pl.isEmpty then List.replicate 6 Value.none else pl)).toArray}).update e (Obj.mapFields (·.setIfInBounds 1 (Value.ref h₁.objs.size)))).get? b=some o:=
  fun b o hbe hb=>by
   rw[Heap.get?_update_other _ _ (Ne.symm hbe)]
   exact Heap.get?_push_of_some _ hb
 refine⟨by rw[← hs₁.1];exact he₃,⟨_,_,by rw[← hs₁.1];exact hT₃,rfl,by first | (simp;done) | (rcases hpl with rfl | ⟨_,_,_,_,_,_,_,rfl⟩ <;> simp)⟩,fun b o h1 h2 h3=>keep b o h1 ((hs₁.2.1 b h2).trans h3),fun b o h1 h3=>?_⟩
 obtain⟨sl,hs⟩:=hs₁.2.2 b o h3
 exact⟨sl,keep b _ h1 hs⟩
def Tr (h:Heap)(vs:Array Value):Prop:=vs[1]?=some .none∨∃ T oT ts,vs[1]?=some (.ref T)∧h.get? T=some oT∧oT.data=.fields ts∧ts[3]?=some .none
theorem ym (hfr:A.frames=some (env::outer))(hl:s.heap.FunFrames base (env::outer))(hf:env.frame=some L)
  (he:s.heap.get? e=some oe) (hd:oe.data=.fields vs) (h1:Tr s.heap vs)
  (h:∀ h',jj ((env::outer).filterMap (·.frame)) e oe (rawInt L) s.heap h'->Q () {s with heap:=h' }) :
  wpAny M A (noteFrame (.ref e) env) Q E s:=by
 unfold noteFrame
 simp only[hf]
 rcases h1 with h1 | ⟨T,oT,ts,h1,hT,hdT,h3⟩
 ·refine wpAny_bind (wpAny_field he hd h1 ?_)
  rw[if_neg (by decide)]
  exact z5 hfr hl hf he hd (Array.getElem?_eq_some_iff.mp h1).1 h
 ·refine wpAny_bind (wpAny_field he hd h1 ?_)
  rw[if_pos (show (Value.ref T != Value.none)=true from by simp)]
  refine wpAny_bind (wpAny_field hT hdT h3 ?_)
  rw[if_neg (show ¬ ((Value.none==rawInt L)=true) from by simp[rawInt])]
  refine wpAny_bind (wpAny_setField hT hdT (Array.getElem?_eq_some_iff.mp h3).1 ?_)
  rw[Heap.update_setField_same s.heap T oT ts 3 .none hT hdT h3]
  exact z5 hfr hl hf he hd (Array.getElem?_eq_some_iff.mp h1).1 h
theorem vY {L:Addr}{fs:List Addr}{s:Shared}{h0:Heap}(hne:e<h0.objs.size)(hd:oe.data=.fields vs)(hsz:1<vs.size)(n:jj fs e oe (rawInt L) h0 s.heap)(hfs:∀ b∈fs,b<h0.objs.size)
  (h:∀ h',jj fs e oe .none h0 h'->Q () {s with heap:=h' }):wpAny M A (setFlight (.ref e) none) Q E s:=by
 obtain⟨oT,ts,h2,h3,h4⟩:=n.tb
 have hTe:h0.objs.size≠e:=Nat.ne_of_gt hne
 have hz:3<ts.size:=(Array.getElem?_eq_some_iff.mp h4).1
 have hd':=Obj.data_mapFields hd (·.setIfInBounds 1 (Value.ref h0.objs.size))
 refine wpAny_setFlight_none n.exc hd' (by simp[hsz]) h2 h3 hz (h _ ?_)
 have other:∀ b,b≠h0.objs.size->(s.heap.update h0.objs.size (Obj.mapFields (·.setIfInBounds 3 Value.none))).get? b=s.heap.get? b:=fun b hb=>Heap.get?_update_other _ _ (Ne.symm hb)
 refine⟨(other e (Ne.symm hTe)).trans n.exc,⟨_,_,Heap.get?_update_self _ h2 (Obj.isFreed_of_fields (Obj.data_mapFields h3 _)),Obj.data_mapFields h3 _,by simp[hz]⟩,fun b o x1 x2 x3=>?_,fun b o x1 x3=>?_⟩
 ·exact (other b (Nat.ne_of_lt (Heap.lt_size x3))).trans (n.keep b o x1 x2 x3)
 ·obtain⟨sl,q⟩:=n.slot b o x1 x3
  exact⟨sl,(other b (Nat.ne_of_lt (Heap.lt_size x3))).trans q⟩
end
structure pY (H:Hp)(h G:Heap)(e C:Addr)(od:Option Addr):Prop where
 ex:∃ oe vs,h.get? e=some oe∧oe.cls=.ref C∧oe.dict=od∧oe.data=.fields vs∧Tr h vs
 fre:H e=none
 new:G.get? e=none
structure gL (X:Cx)(pins:List (Addr×Obj))(H:Hp)(s:Shared)(e C:Addr)(od:Option Addr):Prop where
 c:pY H s.heap X.s₀.heap e C od
 pin:∀ p∈X.pn++pins,p.1≠e
theorem Obj.dict_mapFields (o:Obj)(f:Array Value->Array Value):(o.mapFields f).dict=o.dict:=by
 obtain⟨c,d,dt,sl⟩:=o
 cases dt <;> rfl
def dy (P:Program)(w:World):dU:=fun outer H s E e s'=>∃ H' a C od,e=.ref a∧s'.os=s.os∧AllBare s'.gens∧Un (cG outer) [] H H' s.heap s'.heap∧cb P w H' s'.heap∧pY H' s'.heap s.heap a C od∧E (.ref C) od H'
theorem Tr.of_noted {fs:List Addr}{e:Addr}{oe:Obj}{h0 h:Heap}{vs:Array Value}(hsz:1<vs.size)(n:jj fs e oe .none h0 h):Tr h (vs.setIfInBounds 1 (.ref h0.objs.size)):=by
 obtain⟨oT,ts,h2,h3,h4⟩:=n.tb
 exact .inr ⟨_,oT,ts,by simp[hsz],h2,h3,h4⟩
theorem Tr.sz {h:Heap}{vs:Array Value}(t:Tr h vs):1<vs.size:=by
 rcases t with t | ⟨_,_,_,t,_⟩
 ·exact (Array.getElem?_eq_some_iff.mp t).1
 ·exact (Array.getElem?_eq_some_iff.mp t).1
section
variable {P:Program}{w:World}{K:PySem.W.Frag}{mg:Str->Option Value}{base:Heap}{N:List Str}{qual:Str}{scope:Scope}{f:Addr}{cd:Value}{A:Around}{outer:List Env}{s s':Shared}{H H':Hp}{E:XK}{pins:List (Addr×Obj)}{σ:St}{a C:Addr}{od:Option Addr}
theorem Cp (I:Inv (cV (dy P w) P w K mg base N qual scope f cd A outer s H E) pins σ H' s')(F:pY H' s'.heap s.heap a C od)(q:E (.ref C) od H'):(cV (dy P w) P w K mg base N qual scope f cd A outer s H E).xe (.ref a) s':=by
 obtain⟨oe,vs,he,hc,hdi,hd,tr⟩:=F.ex
 show wpAny (model P w) _ (leaving _ (.ref a)) _ _ s'
 unfold leaving
 have hst:=I.stack
 refine wpAny_bind (ym (L:=s.heap.objs.size) I.ok.frames hst rfl he hd tr fun h1 n1=>?_)
 have hfs:∀ b∈((envOfC qual scope s.heap.objs.size f cd)::outer).filterMap (·.frame),b<s'.heap.objs.size:=fun b hb=>by
  obtain⟨_,o,ho,_⟩:=hst.mem hb
  exact Heap.lt_size ho
 refine vY (Heap.lt_size he) hd tr.sz n1 hfs fun h2 n2=>?_
 have hLs:s.heap.objs.size≤(cV (dy P w) P w K mg base N qual scope f cd A outer s H E).env.locals:=I.ok.above
 have nfr:∀ b o,s.heap.get? b=some o->b∉cG outer->b∉((envOfC qual scope s.heap.objs.size f cd)::outer).filterMap (·.frame):=fun b o e hb z=>by
  rcases List.mem_cons.mp (I.stkSub b z) with z | z
  ·exact absurd (Heap.lt_size e) (by rw[z];exact Nat.not_lt.mpr hLs)
  ·exact hb z
 have na:∀ b o,s.heap.get? b=some o->b≠a:=fun b o e z=>by rw[z,F.new] at e;cases e
 refine ⟨H',a,C,od,rfl,I.os,I.bare,(⟨fun b o e n hb hx=>?_,fun b o e n hb hx=>?_,I.base.free,fun b o e hx=>?_,I.base.tups,I.base.frzs,I.base.tbls,I.base.tabs⟩),(fun b u e=>?_),(⟨⟨_,_,n2.exc,by rw[Obj.cls_mapFields];exact hc,by rw[Obj.dict_mapFields];exact hdi,Obj.data_mapFields hd _,Tr.of_noted tr.sz n2⟩,F.fre,F.new⟩),q⟩
 ·exact n2.keep b o (na b o e) (nfr b o e hb) (I.base.keep b o e n hb hx)
 ·obtain⟨sl,e1⟩:=I.base.slot b o e n hb hx
  obtain⟨sl',e2⟩:=n2.slot b _ (na b o e) e1
  exact⟨sl',e2⟩
 ·obtain⟨o',e1⟩:=I.base.there b o e hx
  obtain⟨sl',e2⟩:=n2.slot b _ (na b o e) e1
  exact⟨_,e2⟩
 ·have keepT:∀ c v,s'.heap.get? c=some v->H' c≠none->h2.get? c=some v:=fun c v q1 q2=>
   n2.keep c v (fun z=>q2 (by rw[z];exact F.fre)) (fun z=>q2 (I.stkFree c z)) q1
  refine (I.hok b u e).stay (fun c v hc q1=>keepT c v q1 ?_) (fun _ q=>q) fun _ _ q=>q
  rcases hc with rfl | hc
  ·rw[e];simp
  ·rw[hc];simp
end
section
variable {X:Cx}{k:Nat}{f:Addr}{fd:FuncData}{ps:List Str}{sp:Sp}{pins:List (Addr×Obj)}{σ:St}{H:Hp}{s:Shared}{Q:VK}{E:XK}{us:List Value}{vs:List V}
theorem Iz (F:aS X.prog X.w X.K X.mg X.base (dy X.prog X.w) k f fd ps sp)(hr:ba k X.A)(hb:Binds X.K fd ps [])(hex:X.ex=[])(I:Inv X pins σ H s)(r:aG vs us)(h:sp vs H Q E)
  (hx:∀ s' H' a C od,Inv X pins σ H' s'->gL X pins H' s' a C od->E (.ref C) od H'->X.xe (.ref a) s'):wpAny (model X.prog X.w) X.A (call (.ref f) us) (EP X pins σ Q) X.xe s:=by
 have hl:us.length=ps.length:=by rw[← r.length];exact F.len _ _ _ _ h
 have hb':=hb s us I.kIn (by rw[List.append_nil];exact hl)
 rw[List.append_nil] at hb'
 refine wpAny_call (codeAny_mono (F.run X.A X.stack s H ⟨us,[]⟩ us vs Q E hr I.env0 hb' r h) fun r s' hq=>?_)
 cases r with
 | error e=>
  revert hq
  refine fun zqq=>L2.yr zqq fun H' a C od zq4 ho hg un hok fl q=>?_
  clear zqq
  subst zq4
  refine hx s' H' a C od (I.call' ho un hok hg fun b z=>absurd z (by simp)) ⟨⟨fl.ex,fl.fre,?_⟩,fun p hp z=>?_⟩ q
  rotate_left
  ·have:=(I.pin p hp).1
   rw[z,fl.new] at this;cases this
  cases e0:X.s₀.heap.get? a with
  | none=>rfl
  | some o=>
   obtain⟨o',e1⟩:=I.base.there a o e0 (by rw[hex];simp)
   rw[fl.new] at e1;cases e1
 | ok fl=>
  cases fl with
  | ret u=>exact I.after hq
  | next=>exact False.elim hq
  | brk=>exact False.elim hq
  | cont=>exact False.elim hq
end
theorem c9.there {P:Program}{w:World}{H:Hp}{h:Heap}{a:Addr}{o:HO}(x:c9 P w H h a o):∃ u,h.get? a=some u:=by
 cases o with
 | lst xs=>obtain⟨_,_,_,_,e⟩:=x;exact⟨_,e⟩
 | tup xs=>obtain⟨_,_,_,o,e,_⟩:=x;exact⟨_,e⟩
 | dK kvs=>obtain⟨_,_,_,_,o,_,_,e,_⟩:=x;exact⟨_,e⟩
 | dT kvs=>obtain⟨_,_,_,_,o,_,_,e,_⟩:=x;exact⟨_,e⟩
 | set S n=>obtain⟨o,_,_,_,e,_⟩:=x;exact⟨_,e⟩
 | ins C dx fs=>obtain⟨_,_,_,e,_⟩:=x;exact⟨_,e⟩
 | own y=>obtain⟨_,e⟩:=x;exact⟨_,e⟩
 | xd fs=>obtain⟨_,⟨_,_,_,e,_⟩,_⟩:=x;exact⟨_,e⟩
 | rng lo hi=>obtain⟨_,_,_,e⟩:=x;exact⟨_,e⟩
 | frz ob u=>obtain⟨e,_⟩:=x;exact⟨_,e⟩
 | tbl ps=>exact⟨_,x⟩
 | tab=>obtain⟨_,e,_⟩:=x;exact⟨_,e⟩
 | met f y=>exact⟨_,x⟩
 | ext φ=>obtain⟨_,⟨_,e⟩,_⟩:=x;exact⟨_,e⟩
theorem Inv.none_of {X:Cx}{pins:List (Addr×Obj)}{σ:St}{H:Hp}{s:Shared}{a:Addr}(I:Inv X pins σ H s)(hex:X.ex=[])(e:s.heap.get? a=none):H a=none∧X.s₀.heap.get? a=none∧∀ p∈X.pn++pins,p.1≠a:=by
 refine⟨?_,?_,fun p hp z=>?_⟩
 ·cases q:H a with
  | none=>rfl
  | some u=>
   obtain⟨o,r⟩:=(I.hok a u q).there
   rw[e] at r;cases r
 ·cases q:X.s₀.heap.get? a with
  | none=>rfl
  | some o=>
   obtain⟨o',r⟩:=I.base.there a o q (by rw[hex];simp)
   rw[e] at r;cases r
 ·have:=(I.pin p hp).1
  rw[z,e] at this;cases this
end L2
namespace L2
variable [Reg]
def iI (K:PySem.W.Frag)(H:Hp)(C:Addr)(od:Option Addr)(x:PyData):Prop:=
 ∃ cls fv fd,x=bF cls (ku fv++fd)∧PySem.W.nsIn K mainGlobals cls=some (some (.ref C))∧((fv=[]∧od=none)∨∃ dx,od=some dx∧H dx=some (.xd fv))∧ar K H (fv.map (·.2)) fd
theorem iI.mono {K:PySem.W.Frag}{H H':Hp}{C:Addr}{od:Option Addr}{x:PyData}(s:aj H H')(h:iI K H C od x):iI K H' C od x:=by
 obtain⟨cls,fv,fd,h1,h2,h3,h4⟩:=id h
 refine ⟨cls,fv,fd,h1,h2,?_,h4.mono s⟩
 rcases h3 with h3 | ⟨dx,h3,h5⟩
 ·exact .inl h3
 ·exact .inr ⟨dx,h3,s _ _ h5⟩
inductive RX where
 | ret (d:PyData) | exc (x:PyData)
def e_ (K:PySem.W.Frag)(T:Ty)(F:List PyData->Option RX):Sp:=fun vs H Q E=>∃ (hid:Addr->Prop) (ds:List PyData) (r:RX),(∀ b,hid b->∃ vs:bP,H b=some vs.ho)∧ar K (ah H hid) vs ds∧F ds=some r ∧
 match r with
 | .ret d=>∀ v as H',aj H H'->(∀ p∈as,H p=none)->a_ K H' (ah H' (uni hid as)) T v d as->Q v H'
 | .exc x=>∀ C od H',aj H H'->iI K (ah H' hid) C od x->E (.ref C) od H'
def J0 (X:Cx)(O:Ow)(T:Ty)(f:aa->Option RX):TE:=fun σ H Q=>dk X.K O f σ H fun hid H0 ρ ow r=>
 match r with
 | .ret d=>∀ v as H',aj H H'->(∀ p∈as,H p=none)->a_ X.K H' (ah H' (uni hid (as++ow))) T v d as->Q v H'
 | .exc x=>∀ pins s' H' a C od,Inv X pins σ H' s'->aj H H'->gL X pins H' s' a C od->iI X.K (ah H' (uni hid ow)) C od x->X.xe (.ref a) s'
abbrev uK (X:Cx)(O:Ow)(T:Ty)(e:Expr)(f:aa->Option RX):Prop:=PE X e (J0 X O T f)
def bW (P:Program)(w:World)(K:PySem.W.Frag)(mg:Str->Option Value)(base:Heap)(k:Nat)(x:Str)(ps:List Str)(T:Ty)(F:List PyData->Option RX):Prop:=
 ∃ f fd,aS P w K mg base (dy P w) k f fd ps (e_ K T F)∧mg x=some (.ref f)∧PySem.W.keepIn K (.ref f)=true∧Binds K fd ps []∧PySem.W.nsIn K mainGlobals x=some (some (.ref f))
def yZ (F:List PyData->Option RX)(ds:List PyData):Option PyData:=(F ds).bind fun r=>match r with
 | .ret d=>some d
 | .exc _=>none
theorem bW.ok {P:Program}{w:World}{K:PySem.W.Frag}{mg:Str->Option Value}{base:Heap}{k:Nat}{x:Str}{ps:List Str}{T:Ty}{F:List PyData->Option RX}(G:bW P w K mg base k x ps T F):aW P w K mg base k x ps T (yZ F):=by
 obtain⟨f,fd,h1,h2,h3,h4,h5⟩:=id G
 have imp:∀ vs H Q E,bB K T (yZ F) vs H Q E->e_ K T F vs H Q E0:=fun vs H Q E zpat=>by
  obtain⟨hid,ds,r,a1,a2,a3,a4⟩:=zpat
  obtain⟨q,b1,b2⟩:=bind_some a3
  cases q with
  | ret d=>cases b2;exact⟨hid,ds,.ret r,a1,a2,b1,a4⟩
  | exc x=>exact L2.aQ b2
 refine ⟨f,fd,(⟨fun vs H Q E h=>h1.len vs H Q E0 (imp vs H Q E h),fun A outer s H args us vs Q E hr he hb hv hs=>?_⟩),h2,h3,h4,h5⟩
 refine codeAny_mono (h1.run A outer s H args us vs Q E0 hr he hb hv (imp vs H Q E hs)) fun r s' hq=>?_
 cases r with
 | error e=>
  obtain⟨H',a,C,od,_,_,_,_,_,_,q⟩:=id hq
  exact q.elim
 | ok fl=>cases fl <;> exact hq
section
variable {X:Cx}{O:Ow}{a:Expr}{es:List Expr}{pos p:Pos}{fs:aa->Option (List PyData)}{k:Nat}{ps:List Str}{x:Str}{T:Ty}{F:List PyData->Option RX}
theorem eA (G:bW X.prog X.w X.K X.mg X.base k x ps T F)(hr:ba k X.A)(hg:Gl X x)(hex:X.ex=[])(ha:gP X O (a::es) fs)(hdb:(x==("__debug__":Str))=false:=by decide)(he:starEach (a::es) X.env=(false,eval a X.env)::starEach es X.env:=by rfl)(hpl:(backTo pos (starEach es X.env)).any (·.1)=false:=by rfl) :
  uK X O T (.Call (.Name x p) (a::es) [] pos) (fun ρ=>(fs ρ).bind F):=by
 obtain⟨f,fd,h1,h2,h3,h4,_⟩:=id G
 intro pins s σ H Q I h
 obtain⟨hid,H0,ρ,ow,r,E,hf,q⟩:=h
 obtain⟨ds,g1,g2⟩:=bind_some hf
 refine wpAny_Call_Name_kw (jx I hg h2 ?_ hdb)
 refine PySem.W.callWith_K (h₀:=X.base) I.ok.mod.kin h3 (aI (ha pos pins s σ H (fun vs H1=>aj H H1∧ar X.K (ah H1 (uni hid ow)) vs ds) I ⟨hid,H0,ρ,ow,ds,E,g1,fun vs H1 s1 D1=>⟨s1,D1⟩⟩) fun us s1 ⟨vs,H1,I1,r1,sm,D1⟩=>⟨I1.kIn,?_⟩) he hpl
 refine Iz (E:=fun cv od H'=>∃ x C,r=.exc x∧cv=.ref C∧aj H1 H'∧iI X.K (ah H' (uni hid ow)) C od x) h1 hr h4 hex I1 r1 ⟨uni hid ow,ds,r,(E.mono sm).uniL,D1,g2,?_⟩ fun s2 H2 a C od I2 fl ⟨x,C',hrx,hC,sm2,hx⟩=>?_
 ·cases r with
  | ret d=>
   intro v as H2 s2 n2 D2
   refine q v as H2 (sm.trans s2) (fun p hp=>sm.free (n2 p hp)) (D2.mono (fR fun b z=>?_) fun p _ o e=>e)
   rcases z with z | z
   ·exact .inl (.inl z)
   ·rcases List.mem_append.mp z with z | z
    ·exact .inr z
    ·exact .inl (.inr z)
  | exc x=>exact fun C od H2 s2 hx=>⟨x,C,rfl,rfl,s2,hx⟩
 ·cases hC
  subst hrx
  exact q pins s2 H2 a C od I2 (sm.trans sm2) fl hx
end
inductive bf where
 | nx (ρ:aa) | rt (d:PyData) | bk (ρ:aa) | ct (ρ:aa) | ex (x:PyData) (ρ:aa)
def ny (X:Cx)(O:Ow)(hid:Addr->Prop)(H0 G:Hp)(D:eV):bf->Prop
 | .nx ρ'=>∀ σ' H' ow',aj G (ah H' (uni hid ow'))->aE X.K O hid H0 σ' H' ρ' ow'->D.nx σ' H'
 | .bk ρ'=>∀ σ' H' ow',aj G (ah H' (uni hid ow'))->aE X.K O hid H0 σ' H' ρ' ow'->D.bk σ' H'
 | .ct ρ'=>∀ σ' H' ow',aj G (ah H' (uni hid ow'))->aE X.K O hid H0 σ' H' ρ' ow'->D.ct σ' H'
 | .rt d=>∀ v as H',aj H0 H'->(∀ p∈as,H0 p=none)->a_ X.K H' (ah H' (uni hid as)) O.r v d as->D.rt v H'
 | .ex x ρ'=>∀ pins s' σ' H' ow' a C od,Inv X pins σ' H' s'->aj G (ah H' (uni hid ow'))->aE X.K O hid H0 σ' H' ρ' ow'->gL X pins H' s' a C od->iI X.K (ah H' (uni hid ow')) C od x->X.xe (.ref a) s'
def z3 (X:Cx)(O:Ow)(F:aa->Option bf):TS:=fun D σ H=>dk X.K O F σ H fun hid H0 ρ ow o=>ny X O hid H0 (ah H (uni hid ow)) D o
abbrev gU (X:Cx)(O:Ow)(st:Stmt)(F:aa->Option bf):Prop:=PS X st (z3 X O F)
abbrev gk (X:Cx)(O:Ow)(st:List Stmt)(F:aa->Option bf):Prop:=cT X st (z3 X O F)
theorem ny.weak {X:Cx}{O:Ow}{hid:Addr->Prop}{H0 G G':Hp}{D:eV}{o:bf}(s:aj G G')(h:ny X O hid H0 G D o):ny X O hid H0 G' D o:=by
 cases o with
 | nx ρ=>exact fun σ' H' ow' s' E=>h σ' H' ow' (s.trans s') E
 | bk ρ=>exact fun σ' H' ow' s' E=>h σ' H' ow' (s.trans s') E
 | ct ρ=>exact fun σ' H' ow' s' E=>h σ' H' ow' (s.trans s') E
 | rt d=>exact h
 | ex x ρ=>exact fun pins s1 σ' H' ow' a C od I s' E f q=>h pins s1 σ' H' ow' a C od I (s.trans s') E f q
def aq.x:aq->bf
 | .nx ρ=>.nx ρ
 | .rt d=>.rt d
 | .bk ρ=>.bk ρ
 | .ct ρ=>.ct ρ
def du (F G:aa->Option bf)(ρ:aa):Option bf:=(F ρ).bind fun o=>match o with
 | .nx ρ'=>G ρ'
 | o=>some o
def fW (S:PyData->aa->Option aa)(F:aa->Option bf):List PyData->aa->Option bf
 | [],ρ=>some (.nx ρ)
 | d::r,ρ=>(S d ρ).bind fun ρ1=>(F ρ1).bind fun o=>match o with
  | .nx ρ2=>fW S F r ρ2
  | .ct ρ2=>fW S F r ρ2
  | .bk ρ2=>some (.nx ρ2)
  | .rt v=>some (.rt v)
  | .ex x ρ2=>some (.ex x ρ2)
def lH (S:PyData->aa->Option aa)(F:aa->Option bf)(x:Option (List PyData))(ρ:aa):Option bf:=x.bind fun ds=>fW S F ds ρ
def bw (ρ:aa)(x:Option RX):Option bf:=x.map fun r=>match r with
 | .ret _=>.nx ρ
 | .exc x=>.ex x ρ
section
variable {X:Cx}{O:Ow}{st:Stmt}{rest:List Stmt}{F G:aa->Option bf}{e:Expr}{f:aa->Option RX}{pos:Pos}{T:Ty}
theorem Ad {F:aa->Option aq}(h:c_ X.nox O st F):gU X O st (fun ρ=>(F ρ).map aq.x):=fun pins s σ H D I zpat=>by
 obtain⟨hid,H0,ρ,ow,o,E,hf,k⟩:=zpat
 obtain⟨o',g1,rfl⟩:=map_some hf
 refine wpAny_mono (h pins s σ H D (I.wish _) ⟨hid,H0,ρ,ow,o',E,g1,?_⟩) (fun _ _ q=>q.unwish) fun _ _ z=>False.elim z
 cases o' <;> exact k
theorem tU {sts:List Stmt}{F:aa->Option aq}(h:eF X.nox O sts F):gk X O sts (fun ρ=>(F ρ).map aq.x):=fun pins s σ H D I zpat=>by
 obtain⟨hid,H0,ρ,ow,o,E,hf,k⟩:=zpat
 obtain⟨o',g1,rfl⟩:=map_some hf
 refine wpAny_mono (h pins s σ H D (I.wish _) ⟨hid,H0,ρ,ow,o',E,g1,?_⟩) (fun _ _ q=>q.unwish) fun _ _ z=>False.elim z
 cases o' <;> exact k
theorem mr:gk X O [] (fun ρ=>some (.nx ρ)):=yX.imp fun D σ H zpat=>by
 obtain⟨hid,H0,ρ,ow,o,E,hf,k⟩:=zpat
 obtain rfl:=Option.some.inj hf
 exact k σ H ow (aj.refl _) E
theorem gf (h1:gU X O st F)(h2:gk X O rest G):gk X O (st::rest) (du F G):=(si h1 h2).imp fun D σ H zpat=>by
 obtain⟨hid,H0,ρ,ow,o,E,hf,k⟩:=zpat
 obtain⟨o1,g1,g2⟩:=bind_some hf
 refine⟨hid,H0,ρ,ow,o1,E,g1,?_⟩
 cases o1 with
 | nx ρ1=>exact fun σ' H' ow' s' E'=>⟨hid,H0,ρ1,ow',o,E',g2,by cases o <;> exact k.weak s'⟩
 | rt d=>cases g2;exact k
 | bk ρ1=>cases g2;exact k
 | ct ρ1=>cases g2;exact k
 | ex x ρ1=>cases g2;exact k
theorem cR (h1:gU X O st F):gk X O [st] F:=yY h1
theorem iu {c:Expr}{a b:List Stmt}{ft:aa->Option Bool}(hc:eG X.nox O c ft)(ha:gk X O a F)(hb:gk X O b G):gU X O (.If c a b pos) (fun ρ=>aA (ft ρ) (F ρ) (G ρ)):=(yV hc.nox ha hb).imp fun D σ H zpat=>by
 obtain⟨hid,H0,ρ,ow,o,E,hf,k⟩:=zpat
 obtain⟨c,g1,g2⟩:=bind_some hf
 refine⟨hid,H0,ρ,ow,c,E,g1,fun H' s=>?_⟩
 cases c with
 | true=>rw[if_pos rfl] at g2 ⊢;exact⟨hid,H0,ρ,ow,o,E.mono s,g2,k.weak (aY s _)⟩
 | false=>rw[if_neg Bool.false_ne_true] at g2 ⊢;exact⟨hid,H0,ρ,ow,o,E.mono s,g2,k.weak (aY s _)⟩
theorem eC (h:uK X O T e f)(hs:swapsWith e none pos.line X.env=pure false:=by rfl):gU X O (.Expr e pos) (fun ρ=>bw ρ (f ρ)):=(sg h hs).imp fun D σ H zpat=>by
 obtain⟨hid,H0,ρ,ow,o,E,hf,k⟩:=zpat
 obtain⟨r,g1,rfl⟩:=map_some hf
 refine⟨hid,H0,ρ,ow,r,E,g1,?_⟩
 cases r with
 | ret d=>exact fun v as H' s n _=>k σ H' ow (aY s _) (E.mono s)
 | exc x=>exact fun pins s' H' a C od I s fl hx=>k pins s' σ H' ow a C od I (aY s _) (E.mono s) fl hx
end
end L2
namespace L2
variable [Reg]
section
variable {X:Cx}{O:Ow}{st:Stmt}{rest:List Stmt}{F G:aa->Option bf}{e:Expr}{f:aa->Option RX}{pos:Pos}{T:Ty}
inductive pW (K:PySem.W.Frag)(O:Ow)(hid:Addr->Prop)(H0 G1:Hp)(S:PyData->aa->Option aa)(F:aa->Option bf)(ds:List PyData)(out:bf)(i m:Nat)(τ:St)(H2:Hp):Prop
 | mk (ρ2:aa) (ow2:List Addr) (left:List PyData) (hM:fg ds i m left) (E2:aE K O hid H0 τ H2 ρ2 ow2) (s2:aj G1 (ah H2 (uni hid ow2))) (hr:fW S F left ρ2=some out):pW K O hid H0 G1 S F ds out i m τ H2
theorem Ae {tg iter:Expr}{body:List Stmt}{fi:aa->Option (List PyData)}{S:PyData->aa->Option aa}(hc:X.calm=true)(hi:gR X O tg iter fi)(hg:gj X O tg S)(hb:gk X O body F)(hp:PassesOwn (model X.prog X.w) X.A X.env X.xe)
  (hs:∀ x,foldedSetIterable iter X.env x=pure x:=by intro _;rfl):gU X O (.For tg iter body [] pos) (fun ρ=>lH S F (fi ρ) ρ):=(yU hp hc hi hg hb hs).imp fun D σ H zpat=>by
 obtain⟨hid,H0,ρ,ow,out,E,hf,k⟩:=zpat
 obtain⟨ds,g1,g2⟩:=bind_some hf
 refine⟨hid,H0,ρ,ow,ds,E,g1,fun J H1 s1 Gd=>?_⟩
 have k1:=k.weak (aY s1 (uni hid ow))
 clear k hf g1
 refine⟨pW X.K O hid H0 (ah H1 (uni hid ow)) S F ds out,⟨ds.length,.mk ρ ow ds (.start ds) (E.mono s1) (aj.refl _) g2⟩,fun i m τ H2 zp=>?_⟩
 obtain⟨ρ2,ow2,left,hM,E2,s2,hr⟩:=zp
 have keep:aj (ah H1 (uni hid ow)) H2:=s2.trans (bA _ _)
 cases left with
 | nil=>
  obtain rfl:=hM.fin
  rw[fW] at hr
  obtain rfl:=Option.some.inj hr
  exact .inl ⟨Gd.stop H2 keep,k1 τ H2 ow2 s2 E2⟩
 | cons d r=>
  obtain⟨hlt,hdi,m',hm',hM'⟩:=hM.cut
  rw[fW] at hr
  obtain⟨ρ3,g3,hr⟩:=bind_some hr
  obtain⟨o3,g4,hr⟩:=bind_some hr
  refine .inr ⟨Gd.go H2 i keep hlt,pW X.K O hid H0 (ah H1 (uni hid ow)) S F ds out (i+1) m',fun τ' H' z=>⟨m',hm',z⟩,fun x H3 y=>?_⟩
  obtain⟨s23,Dx⟩:=Gd.step s2 (fun p hp=>E2.fresh hp) hdi y
  refine⟨hid,H0,ρ2,ow2,d,ρ3,E2.mono s23,Dx,g3,fun τ3 E3=>⟨hid,H0,ρ3,ow2,o3,E3,g4,?_⟩⟩
  have s13:aj (ah H1 (uni hid ow)) (ah H3 (uni hid ow2)):=s2.trans (aY s23 _)
  cases o3 with
  | nx ρ4=>exact fun σ' H' ow' s' E'=>.mk ρ4 ow' r hM' E' (s13.trans s') hr
  | ct ρ4=>exact fun σ' H' ow' s' E'=>.mk ρ4 ow' r hM' E' (s13.trans s') hr
  | bk ρ4=>
   obtain rfl:=Option.some.inj hr
   exact fun σ' H' ow' s' E'=>k1 σ' H' ow' (s13.trans s') E'
  | rt d=>
   obtain rfl:=Option.some.inj hr
   exact k1
  | ex x ρ4=>
   obtain rfl:=Option.some.inj hr
   exact fun pins s' σ' H' ow' a C od I s E' fl hx=>k1 pins s' σ' H' ow' a C od I (s13.trans s) E' fl hx
def fm:List Value:=[.type "ValueError",.type "Exception",.type "BaseException",.type "object"]
inductive jm (K:PySem.W.Frag)(C:Addr):Prop
 | mk (nm q:Str) (N:Addr) (bs bm:List Value) (hdct:Bool) (sn:List Str) (sub:List Value) (ab:Bool) (col:Option Bool) (dd:Option Addr) (k0 k1 k2 k3 k5:Option Value) (ob:Obj) (l:K.lookup C=some ob) (eo:ob=excClassObj nm q C N bs bm hdct sn sub ab col dd k0 k1 k2 k3 k5 "ValueError.__new__") (t:PySem.W.tailIn K fm bm=true) (o:PySem.W.nsOkIn K N=true) (i:PySem.W.nsIn K N "__init__"=some none):jm K C
theorem jm.of {K:PySem.W.Frag}{C:Addr}{nm q:Str}{N:Addr}{bs bm:List Value}{hdct:Bool}{sn:List Str}{sub:List Value}{ab:Bool}{col:Option Bool}{dd:Option Addr}{k0 k1 k2 k3 k5:Option Value}{ob:Obj}(l:K.lookup C=some ob)(eo:ob=excClassObj nm q C N bs bm hdct sn sub ab col dd k0 k1 k2 k3 k5 "ValueError.__new__")(t:PySem.W.tailIn K fm bm=true)(o:PySem.W.nsOkIn K N=true)(i:PySem.W.nsIn K N "__init__"=some none):jm K C:=⟨nm,q,N,bs,bm,hdct,sn,sub,ab,col,dd,k0,k1,k2,k3,k5,ob,l,eo,t,o,i⟩
structure qA (X:Cx)(x:Str)(C:Addr):Prop where
 gl:Gl X x
 mg:X.mg x=some (.ref C)
 ns:PySem.W.nsIn X.K mainGlobals x=some (some (.ref C))
 ex:jm X.K C
inductive uu (h:Heap)(C:Addr):Prop
 | mk (nm q:Str) (N:Addr) (bs bm:List Value) (hdct:Bool) (sn:List Str) (sub:List Value) (ab:Bool) (col:Option Bool) (dd:Option Addr) (k0 k1 k2 k3 k5:Option Value) (mN:Str->Option Value) (hC:h.get? C=some (excClassObj nm q C N bs bm hdct sn sub ab col dd k0 k1 k2 k3 k5 "ValueError.__new__")) (hN:h.Ns N mN) (hi:mN "__init__"=none) (T:OwnTail h fm bm):uu h C
theorem CL {K:PySem.W.Frag}{h:Heap}{C:Addr}(Xk:K.In h)(q:jm K C):uu h C:=by
 obtain⟨nm,q,N,bs,bm,hdct,sn,sub,ab,col,dd,k0,k1,k2,k3,k5,ob,l,rfl,t,o,i⟩:=q
 exact⟨nm,q,N,bs,bm,hdct,sn,sub,ab,col,dd,k0,k1,k2,k3,k5,_,Xk _ _ l,.of_isNs (PySem.W.isNs_of_in Xk o),PySem.W.nsMap_none_of_in Xk o i,PySem.W.tail_of_in Xk t⟩
theorem He {x:Str}{C:Addr}{np cpos:Pos}(hc:X.calm=true)(hex:X.ex=[])(c:qA X x C)(hdb:(x==("__debug__":Str))=false:=by decide) :
  PS X (.Raise (some (.Call (.Name x np) [] [] cpos)) none pos) (fun D σ H=>∀ pins s' a,Inv X pins σ H s'->gL X pins H s' a C none->X.xe (.ref a) s'):=by
 intro pins s σ H D I h
 obtain⟨nm,q,N,bs,bm,hdct,sn,sub,ab,col,dd,k0,k1,k2,k3,k5,mN,hC,hN,hni,T⟩:=CL I.kIn c.ex
 refine wpAny_Raise_call_subU (C:=C) (nm:=nm) (q:=q) (N:=N) (bs:=bs) (bm:=bm) (hdct:=hdct) (sn:=sn) (sub:=sub) (ab:=ab) (col:=col) (dd:=dd) (k0:=k0) (k1:=k1) (k2:=k2) (k3:=k3) (k5:=k5)
  F.excBase_ValueError (by decide) F.excBase_ValueError (mN:=mN) (T.hasType F.excBase_ValueError.hasBase) (I.ok.hd hc) rfl hni (jx I c.gl c.mg ⟨rfl,?_⟩ hdb)
 refine evalArgs_empty ⟨rfl,Nat.zero_le _,hC,hN,T,fun h' a hm=>?_⟩
 have I':Inv X pins σ H {s with heap:=h' }:=I.kept (t':=s.toks) hm.keeps
 obtain⟨t,ht,_,_⟩:=hm.there
 obtain⟨n1,n2,n3⟩:=I.none_of hex hm.new
 exact h pins _ a I' ⟨⟨⟨_,_,ht,rfl,rfl,rfl,.inl rfl⟩,n1,n2⟩,n3⟩
theorem tW {x:Str}{C:Addr}{np cpos:Pos}(hc:X.calm=true)(hex:X.ex=[])(c:qA X x C)(hdb:(x==("__debug__":Str))=false:=by decide) :
  gU X O (.Raise (some (.Call (.Name x np) [] [] cpos)) none pos) (fun ρ=>some (.ex (bF x []) ρ)):=(He hc hex c hdb).imp fun D σ H ⟨hid,H0,ρ,ow,o,E,hf,k⟩ pins s' a I fl=>by
 cases hf
 exact k pins s' σ H ow a C none I (aj.refl _) E fl ⟨x,[],[],rfl,c.ns,.inl ⟨rfl,rfl⟩,.nil⟩
end
def dG:Option bf->Option RX
 | some (.rt r)=>some (.ret r)
 | some (.nx _)=>some (.ret .none)
 | some (.ex x _)=>some (.exc x)
 | _=>none
def eQ (n m:Nat)(B:aa->Option bf)(ds:List PyData):Option RX:=if ds.length=n then dG (B (ds.map some++List.replicate m none)) else none
theorem hU {P:Program}{w:World}{K:PySem.W.Frag}{mg:Str->Option Value}{base:Heap}{x qual:Str}{st:Stmt}{f:Addr}{fd:FuncData}{N ps:List Str}{k:Nat}(O:Ow)(F:aZ K x qual st f fd)(S:bp N ps (aL st))
  (hO:∀ i∈O.s.map (·.1),ps.length≤i) (B:aa->Option bf)
  (hbody:∀ (cdv:Value),kX K f cdv->∀ (A:Around) (outer:List Env) (s:Shared) (H:Hp) (E:XK),ba k (A.deeper (envOfC qual (aL st) s.heap.objs.size f cdv)) ->
   gk (cV (dy P w) P w K mg base N qual (aL st) f cdv A outer s H E) O (cW st) B) :
  aS P w K mg base (dy P w) (k+1) f fd ps (e_ K O.r (eQ ps.length (N.length - ps.length) B)):=by
 obtain⟨a1,a2,a3,a4,a5,a6,cdv,a7,a8,e,lk,hcd⟩:=F.ex
 subst e
 refine qZ lk hcd S (fun vs H Q E h=>?_) (fun A outer s H vs Q E hr h=>?_)
 ·obtain⟨hid,ds,r,_,D,hf,_⟩:=id h
  rw[D.length]
  unfold eQ at hf
  split at hf
  ·assumption
  ·cases hf
 ·obtain⟨hid,ds,r,hh,D,hf,q⟩:=id h
  refine⟨_,hbody cdv ⟨_,_,_,_,lk,rfl⟩ A outer s H E hr,?_⟩
  have hdl:=D.length
  unfold eQ at hf
  split at hf
  case isFalse=>cases hf
  rename_i hpl
  rw[← hpl] at hf
  have E0:aE K O hid H (start N vs) H (ds.map some++List.replicate (N.length - ds.length) none) []:=zT D hpl hO hh
  cases hB:B (ds.map some++List.replicate (N.length - ds.length) none) with
  | none=>rw[hB] at hf;cases hf
  | some o=>
   rw[hB] at hf
   refine⟨hid,H,_,[],o,E0,hB,?_⟩
   cases o with
   | rt d=>cases hf;exact fun v as H' s' n Dv=>q v as H' s' n Dv
   | nx ρ'=>cases hf;exact fun σ' H' ow' s' E'=>q .non [] H' E'.baseS (fun p hp=>by cases hp) .non
   | bk ρ'=>cases hf
   | ct ρ'=>cases hf
   | ex x ρ'=>
    cases hf
    exact fun pins s' σ' H' ow' a C od I s2 E' fl hx=>Cp I fl.c (q C od H' E'.baseS (hx.mono (fq _ _ _)))
end L2
namespace L2
variable [Reg]
abbrev Cx.wp (X:Cx)(pn:List (Addr×Obj))(W:Value->Shared->Prop):Cx:={X with pn:=pn,xe:=W}
abbrev Cx.mark (X:Cx)(pn:List (Addr×Obj))(a:Addr):Cx:={X with A:=X.A.mark (some (.ref a)),calm:=false,pn:=pn,xe:=fun _ _=>False}
section
variable {X:Cx}{pins pins':List (Addr×Obj)}{σ:St}{H:Hp}{s:Shared}{W:Value->Shared->Prop}{a:Addr}
theorem Inv.wp (I:Inv X pins σ H s)(W:Value->Shared->Prop):Inv (X.wp (X.pn++pins) W) [] σ H s:=
 ⟨⟨I.ok.mod,I.ok.kind,I.ok.glob,I.ok.blt,I.ok.above,I.ok.inj,I.ok.has,I.ok.cab,I.ok.hd,I.ok.frames,I.ok.stk,I.ok.exf,I.ok.bs,I.ok.bsz,I.ok.noex,I.ok.exfs,I.ok.funs,I.ok.frf,I.ok.tabs⟩,I.os,I.bare,I.base,I.loc,I.cell,I.free,I.freeC,fun p hp=>I.pin p (by simpa using hp),I.hok,I.len⟩
theorem Inv.unwp (I:Inv (X.wp (X.pn++pins) W) pins' σ H s):Inv X pins σ H s:=
 ⟨⟨I.ok.mod,I.ok.kind,I.ok.glob,I.ok.blt,I.ok.above,I.ok.inj,I.ok.has,I.ok.cab,I.ok.hd,I.ok.frames,I.ok.stk,I.ok.exf,I.ok.bs,I.ok.bsz,I.ok.noex,I.ok.exfs,I.ok.funs,I.ok.frf,I.ok.tabs⟩,I.os,I.bare,I.base,I.loc,I.cell,I.free,I.freeC,fun p hp=>I.pin p (List.mem_append_left _ hp),I.hok,I.len⟩
theorem Inv.mark (I:Inv X pins σ H s)(a:Addr):Inv (X.mark (X.pn++pins) a) [] σ H s:=
 ⟨⟨I.ok.mod,I.ok.kind,I.ok.glob,I.ok.blt,I.ok.above,I.ok.inj,I.ok.has,I.ok.cab,(fun z=>nomatch z),I.ok.frames,I.ok.stk,I.ok.exf,I.ok.bs,I.ok.bsz,I.ok.noex,I.ok.exfs,I.ok.funs,I.ok.frf,I.ok.tabs⟩,I.os,I.bare,I.base,I.loc,I.cell,I.free,I.freeC,fun p hp=>I.pin p (by simpa using hp),I.hok,I.len⟩
theorem Inv.unmark (hc:X.calm=true->X.A.handled=none)(I:Inv (X.mark (X.pn++pins) a) pins' σ H s):Inv X pins σ H s:=
 ⟨⟨I.ok.mod,I.ok.kind,I.ok.glob,I.ok.blt,I.ok.above,I.ok.inj,I.ok.has,I.ok.cab,hc,I.ok.frames,I.ok.stk,I.ok.exf,I.ok.bs,I.ok.bsz,I.ok.noex,I.ok.exfs,I.ok.funs,I.ok.frf,I.ok.tabs⟩,I.os,I.bare,I.base,I.loc,I.cell,I.free,I.freeC,fun p hp=>I.pin p (List.mem_append_left _ hp),I.hok,I.len⟩
theorem SP.unwp {D:eV}{f:Flow}{s':Shared}(h:SP (X.wp (X.pn++pins) W) pins' D f s'):SP X pins D f s':=by
 cases f with
 | next=>obtain⟨σ',H',I,q⟩:=h;exact⟨σ',H',I.unwp,q⟩
 | brk=>obtain⟨σ',H',I,q⟩:=h;exact⟨σ',H',I.unwp,q⟩
 | cont=>obtain⟨σ',H',I,q⟩:=h;exact⟨σ',H',I.unwp,q⟩
 | ret u=>obtain⟨v,σ',H',I,r,q⟩:=h;exact⟨v,σ',H',I.unwp,r,q⟩
theorem Inv.land {oe:Obj}{vs:Array Value}{h':Heap}{C:Addr}{od:Option Addr}{fl:Value}(I:Inv X pins σ H s)(F:gL X pins H s a C od)(he:s.heap.get? a=some oe)(hd:oe.data=.fields vs)(n:jj (cG X.stack) a oe fl s.heap h') :
  Inv X pins σ (upd H a (fz a (oe.mapFields (·.setIfInBounds 1 (.ref s.heap.objs.size))))) {s with heap:=h' }:=by
 have nL:X.env.locals≠a:=fun z=>by
  obtain⟨m,⟨o,es,ep,ho,hd',_⟩,_⟩:=I.loc
  rw[z,he] at ho;cases ho;rw[hd'] at hd;cases hd
 have nC:∀ x c,X.env.cells.lookup x=some c->c≠a:=fun x c e z=>by
  obtain⟨v,o,ho,hd'⟩:=I.cell x c e
  rw[z,he] at ho;cases ho;rw[hd'] at hd;cases hd
 have n0:∀ b o,X.s₀.heap.get? b=some o->b≠a:=fun b o e z=>by rw[z,F.c.new] at e;cases e
 have nH:∀ b u,H b=some u->b≠a:=fun b u e z=>by rw[z,F.c.fre] at e;cases e
 have nfs:∀ b,b≠X.env.locals->b∉X.fs->b∉cG X.stack:=fun b h1 h2 z=>(List.mem_cons.mp (I.stkSub b z)).elim h1 h2
 have keepT:∀ c v,s.heap.get? c=some v->H c≠none->h'.get? c=some v:=fun c v q1 q2=>n.keep c v (fun z=>q2 (by rw[z];exact F.c.fre)) (fun z=>q2 (I.stkFree c z)) q1
 have cellK:∀ x c,X.env.cells.lookup x=some c->∀ v,s.heap.IsCell c v->h'.IsCell c v:=fun x c e v zpat=>by
  obtain⟨o,ho,hd⟩:=zpat
  obtain⟨sl,q⟩:=n.slot c o (nC x c e) ho
  exact⟨_,q,hd⟩
 refine⟨I.ok,I.os,I.bare,⟨fun b o e nn hb hx=>?_,fun b o e nn hb hx=>?_,fun b o e nn hx=>?_,fun b o e hx=>?_,fun b xs e=>?_,fun b o xs e=>?_,fun b ps e=>?_,fun b e=>?_⟩,?_,fun x c e=>?_,?_,fun x c e=>?_,fun p hp=>?_,fun b u e=>?_,I.len⟩
 ·have neL:b≠X.env.locals:=Nat.ne_of_lt (Nat.lt_of_lt_of_le (Heap.lt_size e) I.ok.above)
  exact n.keep b o (n0 b o e) (nfs b neL hb) (I.base.keep b o e nn hb hx)
 ·obtain⟨sl,e1⟩:=I.base.slot b o e nn hb hx
  obtain⟨sl',e2⟩:=n.slot b _ (n0 b o e) e1
  exact⟨sl',e2⟩
 ·rw[aD (n0 b o e)];exact I.base.free b o e nn hx
 ·obtain⟨o',e1⟩:=I.base.there b o e hx
  obtain⟨sl',e2⟩:=n.slot b _ (n0 b o e) e1
  exact⟨_,e2⟩
 ·have q:=I.base.tups b xs e;rw[aD (nH b _ q)];exact q
 ·have q:=I.base.frzs b o xs e;rw[aD (nH b _ q)];exact q
 ·obtain⟨more,q⟩:=I.base.tbls b ps e
  exact⟨more,by rw[aD (nH b _ q)];exact q⟩
 ·have q:=I.base.tabs b e;rw[aD (nH b _ q)];exact q
 ·obtain⟨m,hn,hl⟩:=I.loc
  obtain⟨o,es,ep,ho,r⟩:=id hn
  obtain⟨sl,q⟩:=n.slot _ o nL ho
  refine⟨m,⟨_,es,ep,q,r⟩,fun i x v e1 e2 e3=>?_⟩
  obtain⟨u,ru,l⟩:=hl i x v e1 e2 e3
  refine⟨u,ru,?_⟩
  rcases l with l | ⟨k,c,e,z⟩
  ·exact .inl l
  ·exact .inr ⟨k,c,e,cellK x c e _ z⟩
 ·obtain⟨v,z⟩:=I.cell x c e
  exact⟨v,cellK x c e v z⟩
 ·rw[aD nL];exact I.free
 ·rw[aD (nC x c e)];exact I.freeC x c e
 ·obtain⟨e,nn,ne,nf,d⟩:=I.pin p hp
  have npa:=F.pin p hp
  exact⟨n.keep p.1 p.2 npa (nfs p.1 ne nf) e,by rw[aD npa];exact nn,ne,nf,d⟩
 ·by_cases hb:b=a
  ·subst hb
   rw[bC] at e;cases e
   exact lJ n.exc
  ·rw[aD hb] at e
   refine (I.hok b u e).stay (fun c v hc q1=>keepT c v q1 ?_) (fun c q=>?_) (fun c xs q=>?_) fun c o u vs hdv q=>?_
   ·rcases hc with rfl | hc
    ·rw[e];simp
    ·rw[hc];simp
   ·rw[aD (nH c _ q)];exact q
   ·rw[aD (nH c _ q)];exact q
   ·rw[aD (nH c _ q)];exact q
theorem Inv.gone {i:Nat}{n:Str}{h':Heap}{v:Option Value}{m:Str->Option Value}{t:Nat}(I:Inv X pins σ H s)(hN:X.N.Nodup)(hi:X.N[i]?=some n)(hk:X.env.kindOf n=some .local)
  (hm:s.heap.Ns X.env.locals m) (hl:∀ (j:Nat) (x:Str) (w:V),X.N[j]?=some x->σ[j]?=some (some w)->j8 X.env.scope x->∃ u,RelV w u∧Look X.env s.heap m x u)
  (hn:h'.Ns X.env.locals (fun x=>if x=n then v else m x)) (hs:Heap.SameBut X.env.locals s.heap h'):Inv X pins (σ.set i none) H {s with heap:=h',toks:=t}:=by
 obtain⟨oL,_,_,hoL,_⟩:=id hm
 have kp:∀ b o,b≠X.env.locals->s.heap.get? b=some o->h'.get? b=some o:=fun b o hb q=>(hs.2 b hb).trans q
 refine⟨I.ok,I.os,I.bare,⟨fun b o e nn hb hx=>?_,fun b o e nn hb hx=>?_,I.base.free,fun b o e hx=>?_,I.base.tups,I.base.frzs,I.base.tbls,I.base.tabs⟩,⟨_,hn,fun j y w e1 e2 e3=>?_⟩,fun x c e=>?_,I.free,I.freeC,fun p hp=>?_,fun b u e=>?_,by simpa using I.len⟩
 ·exact kp b o (Nat.ne_of_lt (Nat.lt_of_lt_of_le (Heap.lt_size e) I.ok.above)) (I.base.keep b o e nn hb hx)
 ·obtain⟨sl,e1⟩:=I.base.slot b o e nn hb hx
  exact⟨sl,kp b _ (Nat.ne_of_lt (Nat.lt_of_lt_of_le (Heap.lt_size e) I.ok.above)) e1⟩
 ·obtain⟨o',e1⟩:=I.base.there b o e hx
  exact⟨o',kp b _ (Nat.ne_of_lt (Nat.lt_of_lt_of_le (Heap.lt_size e) I.ok.above)) e1⟩
 ·have hji:j≠i:=fun z=>by
   subst z
   have hlt:j<σ.length:=by have:=(List.getElem?_eq_some_iff.mp e2).1;simpa using this
   rw[List.getElem?_set_self hlt] at e2
   cases e2
  rw[List.getElem?_set_ne (Ne.symm hji)] at e2
  obtain⟨u,r,q⟩:=hl j y w e1 e2 e3
  refine⟨u,r,?_⟩
  have hne:y≠n:=fun e=>hji (rY hN e1 (e▸hi))
  rcases q with ⟨k,e⟩ | ⟨k,c,e,z⟩
  ·exact .inl ⟨k,by simp[hne,e]⟩
  ·exact .inr ⟨k,c,e,z.sameBut hs (I.cne y c e)⟩
 ·obtain⟨w',z⟩:=I.cell x c e
  exact⟨w',z.sameBut hs (I.cne x c e)⟩
 ·obtain⟨e,nn,ne,nf,d⟩:=I.pin p hp
  exact⟨kp p.1 p.2 ne e,nn,ne,nf,d⟩
 ·have nbl:∀ c u,H c=some u->c≠X.env.locals:=fun c u q z=>by rw[z,I.free] at q;cases q
  refine (I.hok b u e).stay (fun c v hc q1=>kp c v ?_ q1) (fun _ q=>q) fun _ _ q=>q
  rcases hc with rfl | hc
  ·exact nbl _ _ e
  ·exact nbl _ _ hc
end
theorem aE.unset {K:PySem.W.Frag}{O:Ow}{hid:Addr->Prop}{H0 H:Hp}{σ:St}{ρ:aa}{ow:List Addr}(e:aE K O hid H0 σ H ρ ow)(i:Nat):aE K O hid H0 (σ.set i none) H (ρ.set i none) ow:=by
 have two:∀ {j:Nat} {d:PyData},(ρ.set i none)[j]?=some (some d)->j≠i∧ρ[j]?=some (some d):=fun {j d} q=>by
  by_cases hj:j=i
  ·subst hj
   have hl:j<ρ.length:=by have:=(List.getElem?_eq_some_iff.mp q).1;simpa using this
   rw[List.getElem?_set_self hl] at q
   cases q
  ·rw[List.getElem?_set_ne (Ne.symm hj)] at q
   exact⟨hj,q⟩
 refine⟨by simpa using e.len,e.base,fun j x hj q=>?_,?_,e.isl,e.ishL,e.emp⟩
 ·obtain⟨hne,z⟩:=two q
  obtain⟨w,a,b⟩:=e.val j x hj z
  exact⟨w,by rw[List.getElem?_set_ne (Ne.symm hne)];exact a,b⟩
 ·obtain⟨A,a1,a2,a3⟩:=e.own
  refine⟨A,fun j t x hj q=>?_,a2,a3⟩
  obtain⟨hne,z⟩:=two q
  obtain⟨w,a,b⟩:=a1 j t x hj z
  exact⟨w,by rw[List.getElem?_set_ne (Ne.symm hne)];exact a,b⟩
def aq.unset (i:Nat):aq->aq
 | .nx ρ=>.nx (ρ.set i none)
 | .bk ρ=>.bk (ρ.set i none)
 | .ct ρ=>.ct (ρ.set i none)
 | .rt d=>.rt d
def lF:PyData->Str
 | .dict [(.bool true,.str c),_]=>c
 | _=>""
def kO (ie:Nat)(caught:List Str)(Hd:aa->Option aq)(o:Option bf):Option aq:=o.bind fun o=>match o with
 | .nx ρ=>some (.nx ρ)
 | .rt d=>some (.rt d)
 | .bk ρ=>some (.bk ρ)
 | .ct ρ=>some (.ct ρ)
 | .ex x ρ=>if caught.contains (lF x)=true then (Hd (ρ.set ie (some x))).map (aq.unset ie) else none
section
variable {X:Cx}{O:Ow}{body suite:List Stmt}{b₀:Stmt}{n tn:Str}{ie:Nat}{np hpos pos:Pos}{F:aa->Option bf}{Hd:aa->Option aq}{PC:Addr}{caught:List Str}
theorem IG (hc:X.calm=true)(hex:X.ex=[])(hst:X.stack=X.env::X.outer)(hfr:X.env.frame=some X.env.locals)(hN:X.N.Nodup)(hi:X.N[ie]?=some n)(hk:X.env.kindOf n=some .local)(hfn:X.fn n=true∨X.env.scope.names.lookup n=some .local)(hO:O.s.lookup ie=none)
  (hg:Gl X tn) (hm:X.mg tn=some (.ref PC)) (hcl:∀ cls∈caught,∀ C,PySem.W.nsIn X.K mainGlobals cls=some (some (.ref C))->PySem.W.exmOne X.K (.ref C) (.ref PC)=some true)
  (hb:∀ pn W,gk (X.wp pn W) O body F) (hh:∀ pn a,eF (X.mark pn a) O (b₀::suite) Hd) (hdb:(tn==("__debug__":Str))=false:=by decide) :
  c_ X O (.Try body [.ExceptHandler (some (.Name tn np)) (some n) (b₀::suite) hpos] [] [] pos) (fun ρ=>kO ie caught Hd (F ρ)):=by
 intro pins s σ H D I h
 obtain⟨hid,H0,ρ,ow,out,E,hf,k⟩:=h
 obtain⟨o,g1,g2⟩:=bind_some hf
 have hcls:(X.env.scope.kind==.class||(X.env.scope.kind==.module&&X.env.locals != X.env.globals))=false:=by rw[I.ok.kind];rfl
 refine wpAny_Try_except ?_
 have key:∀ f s',SP X pins D f s'->(match f with | .next=>wpAny (model X.prog X.w) X.A (execs [] X.env) (SP X pins D) X.xe s' | f=>SP X pins D f s'):=fun f s' q=>by
  cases f with
  | next=>exact wpAny_execs_nil q
  | _=>exact q
 refine wpAny_mono (hb (X.pn++pins) _ [] s σ H D (I.wp _) ⟨hid,H0,ρ,ow,o,E,g1,?_⟩) (fun f s' q=>key f s' q.unwp) fun _ _ z=>z
 cases o with
 | nx ρ1=>cases g2;exact k
 | rt d=>cases g2;exact k
 | bk ρ1=>cases g2;exact k
 | ct ρ1=>cases g2;exact k
 | ex x ρ1=>
  simp only at g2
  split at g2
  case isFalse=>cases g2
  rename_i hca
  obtain⟨oh,g3,rfl⟩:=map_some g2
  intro pins' s1 σ1 H1 ow1 a C od I1w sm E1 fl hx
  have I1:Inv X pins σ1 H1 s1:=I1w.unwp
  have fl1:gL X pins H1 s1 a C od:=⟨fl.c,fun p hp=>fl.pin p (List.mem_append_left _ hp)⟩
  obtain⟨oe,vs,he,hcl',hdi,hd,tr⟩:=fl1.c.ex
  revert hx
  refine fun zqq=>L2.yo zqq fun cls fv fd zq3 hns hfv hDf=>?_
  clear zqq
  subst zq3
  have hst1:=I1.stack
  rw[hst] at hst1
  have hfrm:=I1.ok.frames
  rw[hst] at hfrm
  refine ym (L:=X.env.locals) hfrm hst1 hfr he hd tr fun h1 n1=>?_
  have hfs:∀ b∈(X.env::X.outer).filterMap (·.frame),b<s1.heap.objs.size:=fun b hb=>by
   obtain⟨_,o,ho,_⟩:=hst1.mem hb
   exact Heap.lt_size ho
  refine vY (Heap.lt_size he) hd tr.sz n1 hfs fun h2 n2=>?_
  have n2':jj (cG X.stack) a oe .none s1.heap h2:=by rw[hst];exact n2
  have I2:=I1.land fl1 he hd n2'
  have hfresh:H1 a=none:=fl1.c.fre
  have E2:=E1.mono (bK (o:=fz a (oe.mapFields (·.setIfInBounds 1 (.ref s1.heap.objs.size)))) hfresh)
  have Im:=I2.mark a
  -- the class
  have hmem:cls∈caught:=by
   have:caught.contains cls=true:=hca
   exact List.contains_iff_mem.mp this
  have hxm:=hcl cls hmem C hns
  have hty:PySem.W.Looks (model X.prog X.w) h2 (typeOf (.ref a)) (.ref C):=by
   have hc2:(oe.mapFields (·.setIfInBounds 1 (.ref s1.heap.objs.size))).cls=.ref C:=by rw[Obj.cls_mapFields];exact hcl'
   exact hc2▸(PySem.W.Looks.ld n2.exc).andThen .now
  have hmat:=PySem.W.exm_one I2.kIn hty hxm
  refine wpAny_handleBy_cons (codeAny_handlers_test (jx (pos:=np) Im hg hm ?_ hdb)) (by intro q;cases q)
  refine hmat.at ?_
  show codeAny _ _ (.handlers (.ref a) [.ExceptHandler none (some n) (b₀::suite) hpos] X.env) _ _
  refine codeAny_handlers_suite_as ?_
  obtain⟨oT,ts,t2,t3,t4⟩:=n2.tb
  refine wpAny_setFlight_none n2.exc (Obj.data_mapFields hd _) (by simp[tr.sz]) t2 t3 (Array.getElem?_eq_some_iff.mp t4).1 ?_
  rw[show ({s1 with heap:=h2}:Shared).heap.update s1.heap.objs.size (Obj.mapFields (·.setIfInBounds 3 Value.none))=h2 from Heap.update_setField_same h2 _ oT ts 3 .none t2 t3 t4]
  refine tm (X:=X.mark (X.pn++pins) a) Im hN hi (.inl hk) (v:=.ref a) rfl (fun s3 I3=>?_) hfn
  have Dx:az X.K (ah (upd H1 a (fz a (oe.mapFields (·.setIfInBounds 1 (.ref s1.heap.objs.size))))) (uni hid ow1)) (.ref a) (bF cls (ku fv++fd)):=by
   refine .exc ⟨_,C,_,E1.newAt hfresh,by rw[Obj.cls_mapFields];exact hcl',Obj.data_mapFields hd _,hns,?_⟩ (hDf.mono (aY (bK hfresh) _))
   rcases hfv with ⟨hfv,h5⟩ | ⟨dx,h5,h6⟩
   ·exact .inl ⟨hfv,by rw[Obj.dict_mapFields,hdi];exact h5⟩
   ·exact .inr ⟨dx,by rw[Obj.dict_mapFields,hdi];exact h5,aY (bK hfresh) _ _ _ h6⟩
  have Es:=E2.set hO Dx
  let D':eV:={nx:=fun σ' H'=>D.nx (σ'.set ie none) H',rt:=D.rt,bk:=fun σ' H'=>D.bk (σ'.set ie none) H',ct:=fun σ' H'=>D.ct (σ'.set ie none) H' }
  have sm2:aj (ah H (uni hid ow)) (ah (upd H1 a (fz a (oe.mapFields (·.setIfInBounds 1 (.ref s1.heap.objs.size))))) (uni hid ow1)):=sm.trans (aY (bK hfresh) _)
  refine wpAny_mono (hh (X.pn++pins) a [] s3 _ _ D' I3 ⟨hid,H0,_,ow1,oh,Es,g3,?_⟩) (fun f s4 q=>?_) fun _ _ z=>False.elim z
  ·cases oh with
   | nx ρ'=>exact fun σ' H' ow' s' E'=>k _ H' ow' (sm2.trans s') (E'.unset ie)
   | bk ρ'=>exact fun σ' H' ow' s' E'=>k _ H' ow' (sm2.trans s') (E'.unset ie)
   | ct ρ'=>exact fun σ' H' ow' s' E'=>k _ H' ow' (sm2.trans s') (E'.unset ie)
   | rt d=>exact k
  ·have fin:∀ {σ4:St} {H4:Hp},Inv (X.mark (X.pn++pins) a) [] σ4 H4 s4->∀ (P:Shared->Prop),(∀ s5,Inv X pins (σ4.set ie none) H4 s5->P s5)->wpAny (model X.prog X.w) X.A (do bindName X.env n .none;unbindBehindTheSuite X.env n hpos) (fun _ s5=>P s5) X.xe s4:=fun {σ4 H4} I4 P hP=>by
    have I5:Inv X pins σ4 H4 s4:=Inv.unmark I.ok.hd I4
    obtain⟨m,hm4,hl4⟩:=I5.loc
    exact wpAny_nameGoes_keeps hk hm4 hcls fun h' v hn hs=>hP _ (I5.gone hN hi hk hm4 hl4 hn hs)
   show wpAny (model X.prog X.w) X.A (do bindName X.env n .none;unbindBehindTheSuite X.env n hpos) (fun _ s5=>SP X pins D f s5) X.xe s4
   cases f with
   | next=>obtain⟨σ4,H4,I4,q4⟩:=q;exact fin I4 _ fun s5 I5=>⟨_,H4,I5,q4⟩
   | brk=>obtain⟨σ4,H4,I4,q4⟩:=q;exact fin I4 _ fun s5 I5=>⟨_,H4,I5,q4⟩
   | cont=>obtain⟨σ4,H4,I4,q4⟩:=q;exact fin I4 _ fun s5 I5=>⟨_,H4,I5,q4⟩
   | ret u=>obtain⟨v4,σ4,H4,I4,r4,q4⟩:=q;exact fin I4 _ fun s5 I5=>⟨v4,_,H4,I5,r4,q4⟩
end
end L2
namespace L2
variable [Reg]
structure gZ (K:PySem.W.Frag)(mg:Str->Option Value)(x:Str)(C:Addr):Prop where
 mg:mg x=some (.ref C)
 ns:PySem.W.nsIn K mainGlobals x=some (some (.ref C))
 ex:jm K C
theorem gZ.at {X:Cx}{x:Str}{C:Addr}(c:gZ X.K X.mg x C)(hg:Gl X x):qA X x C:=⟨hg,c.mg,c.ns,c.ex⟩
def um (K:PySem.W.Frag)(exs:List Str)(D:Addr):Prop:=∀ cls∈exs,∀ C,PySem.W.nsIn K mainGlobals cls=some (some (.ref C))->PySem.W.exmOne K (.ref C) (.ref D)=some true
def iR (K:PySem.W.Frag)(C:Addr):Bool:=
 PySem.W.findIn K (.ref C) "__getattribute__"==some (some (.builtin "BaseException.__getattribute__"))&&PySem.W.findIn K (.ref C) "__getattr__"==some none&&PySem.W.mroIn K C (.type "BaseException")==some true &&
 PySem.W.findIn K (.ref C) "__class__"==some (some (.builtin "object.__class__"))&&PySem.W.specialIn K (.builtin "object.__class__") "__get__"==some (some (.builtin "getset_descriptor.__get__"))&&PySem.W.takesIn K (.builtin "object.__class__")==some true&&PySem.W.mroIn K C (.type "object")==some true&&PySem.W.hasDictIn K C
structure i9 (K:PySem.W.Frag)(C:Addr):Prop where
 ga:PySem.W.findIn K (.ref C) "__getattribute__"=some (some (.builtin "BaseException.__getattribute__"))
 gn:PySem.W.findIn K (.ref C) "__getattr__"=some none
 be:PySem.W.mroIn K C (.type "BaseException")=some true
 cl:PySem.W.findIn K (.ref C) "__class__"=some (some (.builtin "object.__class__"))
 sp:PySem.W.specialIn K (.builtin "object.__class__") "__get__"=some (some (.builtin "getset_descriptor.__get__"))
 tk:PySem.W.takesIn K (.builtin "object.__class__")=some true
 ob:PySem.W.mroIn K C (.type "object")=some true
 hd:PySem.W.hasDictIn K C=true
theorem we {K:PySem.W.Frag}{C:Addr}(h:iR K C=true):i9 K C:=by
 unfold iR at h
 simp only[Bool.and_eq_true,beq_iff_eq] at h
 obtain⟨⟨⟨⟨⟨⟨⟨h1,h2⟩,h3⟩,h4⟩,h5⟩,h6⟩,h7⟩,h8⟩:=h
 exact⟨h1,h2,h3,h4,h5,h6,h7,h8⟩
section
variable {prog:Program}{w:World}{A:Around}{E:Value->Shared->Prop}{s:Shared}{K:PySem.W.Frag}{x D:Addr}{ox:Obj}{od:Option Obj}{name:Str}{R:Result->Shared->Prop}{Q:Value->Shared->Prop}
theorem CK {tk:Tok}{v:Value}{P:Fin->Shared->Prop}(X:K.In s.heap)(I:PySem.W.InstAt s.heap x ox D od)(hf:PySem.W.findObj K D od name=some (.value v))(h:P (.done (.ret v)) s) :
  wpAny (model prog w) A (Builtin.«object.__getattribute__» ⟨[.ref x,.str name tk],[]⟩) P E s:=by
 obtain⟨hh,g,d,t,os⟩:=s
 have L0:=I.type (M:=model prog w)
 have L1:=PySem.W.looks_find (M:=model prog w) X I hf
 unfold Builtin.«object.__getattribute__»
 refine wpAny_bind (wpAny_pure ?_)
 refine wpAny_bind (wpAny_pure ?_)
 refine wpAny_bind (L0.at (wpAny_bind (L1.at ?_)))
 exact wpAny_pure h
theorem CJ {tk:Tok}{P:Fin->Shared->Prop}(X:K.In s.heap)(I:PySem.W.InstAt s.heap x ox D od)(k:i9 K D)(h:P (.done (.ret (.ref D))) s) :
  wpAny (model prog w) A (Builtin.«object.__getattribute__» ⟨[.ref x,.str "__class__" tk],[]⟩) P E s:=by
 have hf:PySem.W.findObj K D od "__class__"=some (.bind (.builtin "getset_descriptor.__get__") (.builtin "object.__class__")):=by
  obtain⟨cd,hc,_⟩:=PySem.W.any_some k.hd
  unfold PySem.W.findObj
  rw[hc,Option.bind_some,k.cl,Option.bind_some]
  dsimp only
  rw[k.sp,Option.bind_some]
  dsimp only
  rw[k.tk,Option.bind_some]
 obtain⟨hh,g,d,t,os⟩:=s
 have L0:=I.type (M:=model prog w)
 have L1:=PySem.W.looks_find (M:=model prog w) X I hf
 unfold Builtin.«object.__getattribute__»
 refine wpAny_bind (wpAny_pure ?_)
 refine wpAny_bind (wpAny_pure ?_)
 refine wpAny_bind (L0.at (wpAny_bind (L1.at ?_)))
 show wpAny _ _ (Builtin.ObjectAttr.bindTo _ _ _ _) _ _ _
 unfold Builtin.ObjectAttr.bindTo
 refine wpAny_bind (wpAny_call (PySem.W.class_get (s:=⟨hh,g,d,t,os⟩) X I k.ob ?_))
 exact wpAny_pure h
theorem CI {nameV:Value}{P:Unit->Shared->Prop}(X:K.In s.heap)(I:PySem.W.InstAt s.heap x ox D od)(k:i9 K D)(h:P () s) :
  wpAny (model prog w) A (checkBuiltinCall "BaseException.__getattribute__" ⟨[.ref x,nameV],[]⟩) P E s:=by
 have hk:builtinKind "BaseException.__getattribute__"=some .slot:=by decide +kernel
 have hsplit:splitId "BaseException.__getattribute__"=some ("BaseException","__getattribute__"):=by decide +kernel
 have ha:=F.args_bexc_ga (.ref x) nameV
 have LI:PySem.W.Looks (model prog w) s.heap (isInstance (.ref x) (.type "BaseException")) true:=(I.type (M:=model prog w)).andThen (PySem.W.looks_mroIn X k.be)
 obtain⟨hh,g,d,t,os⟩:=s
 simp only[checkBuiltinCall,hk,hsplit]
 refine wpAny_bind (LI.at ?_)
 repeat (any_goals (first | assumption | wp_step))
theorem CH {tk:Tok}{v:Value}(X:K.In s.heap)(I:PySem.W.InstAt s.heap x ox D od)(k:i9 K D)
  (hent:∀ {A':Around} {E':Value->Shared->Prop} {P:Fin->Shared->Prop},P (.done (.ret v)) s->wpAny (model prog w) A' (Builtin.«object.__getattribute__» ⟨[.ref x,.str name tk],[]⟩) P E' s) (h:R (.ok (.ret v)) s) :
  codeAny (model prog w) A (.call (.builtin "BaseException.__getattribute__") ⟨[.ref x,.str name tk],[]⟩) R s:=by
 refine codeAny_call_builtin F.attr_ValueError.ga.plain F.entry_bexc_ga (CI X I k ?_)
 refine hent ?_
 exact h
theorem wg {tk:Tok}{v:Value}{fill expr:Bool}(X:K.In s.heap)(I:PySem.W.InstAt s.heap x ox D od)(k:i9 K D)(hv:PySem.W.handedIn v=true)
  (hent:∀ {A':Around} {E':Value->Shared->Prop} {P:Fin->Shared->Prop},P (.done (.ret v)) s->wpAny (model prog w) A' (Builtin.«object.__getattribute__» ⟨[.ref x,.str name tk],[]⟩) P E' s) (h:Q v s) :
  wpAny (model prog w) A (getAttrBy (.ref x) (.str name tk) fill expr) Q E s:=by
 have FB:=F.attr_ValueError
 have f3:=FB.ga.bind (.ref x)
 have L0:=I.type (M:=model prog w)
 have L1:=PySem.W.looks_findIn (M:=model prog w) X k.ga
 have L2:=PySem.W.looks_findIn (M:=model prog w) X k.gn
 unfold getAttrBy
 refine wpAny_holding (wpAny_bind (L0.at (wpAny_bind (L1.at ?_))))
 show wpAny _ _ (getAttrByItsOwn _ _ _ _ _ _) _ _ _
 unfold getAttrByItsOwn
 refine wpAny_bind (L2.at ?_)
 refine wpAny_bind (wpAny_attempt (wpAny_holding ?_))
 have hx0:(expr&&onTheHeap (Value.builtin "BaseException.__getattribute__"))=false:=by cases expr <;> rfl
 unfold callGetattribute
 rw[hx0,if_neg Bool.false_ne_true]
 unfold boundAndCalled
 rw[f3]
 refine wpAny_bind (wpAny_pure ?_)
 refine wpAny_call (CH X I k hent ?_)
 show wpAny _ _ (handedOut v) _ _ _
 rw[PySem.W.handedOut_of hv]
 exact wpAny_pure h
theorem En (k:i9 K D):PySem.W.KitX K (.ref x) (.ref D) (fun h=>PySem.W.InstAt h x ox D od) where
 ty:=fun _ _ _ I=>I.type
 it:=fun _ _ X _=>by
  obtain⟨cdD,hcD,_⟩:=PySem.W.any_some k.hd
  unfold PySem.W.clsIn at hcD
  split at hcD
  ·rename_i c' d' cd' sl' ho
   intro A' Q' E' s' k q
   unfold isType loadHead
   exact wpAny_bind (wpAny_loadPart (k _ _ (X _ _ ho)) (wpAny_pure q))
  ·exact L2.aQ hcD
 ne:=fun h tp dd its n sl X htp=>by
  obtain⟨cdD,hcD,_⟩:=PySem.W.any_some k.hd
  refine Bool.eq_false_iff.mpr fun q=>?_
  have e:D=tp:=Value.ref.inj (beq_iff_eq.mp q)
  subst e
  unfold PySem.W.clsIn at hcD
  split at hcD
  ·rename_i c' d' cd' sl' ho
   have z:=(X _ _ ho).symm.trans htp
   cases z
  ·exact L2.aQ hcD
 ca:=fun {prog w A E Q s} X I h=>by
  unfold getAttr? getAttrBy?
  refine wpAny_bind (wpAny_mkText (wpAny_bind (wpAny_attempt (wg (s:={s with toks:=s.toks+1}) X I k rfl (fun {A' E' P} hp=>CJ (s:={s with toks:=s.toks+1}) X I k hp) ?_))))
  exact wpAny_pure h
end
def kK (cls T:Str):Bool:=cls==T||T=="PostError"||T=="ValueError"
def Jp:PyData->Option Str
 | .str c=>some c
 | _=>none
def isTrue:PyData->Bool
 | .bool b=>b
 | _=>false
def CG:List (PyData×PyData)->Option Str
 | [p,_]=>if isTrue p.1=true then Jp p.2 else none
 | _=>none
def DY (exs:List Str)(T:Str):PyData->Option Bool
 | .none=>some false
 | .dict l=>(CG l).bind fun c=>if exs.contains c=true then some (kK c T) else none
 | _=>none
def cZ (exs:List Str)(T:Str)(d:PyData):Option PyData:=(DY exs T d).map .bool
structure IsT (K:PySem.W.Frag)(mg:Str->Option Value)(exs:List Str)(T:Str)(D:Addr):Prop where
 mg:mg T=some (.ref D)
 ex:∀ cls∈exs,∀ C,PySem.W.nsIn K mainGlobals cls=some (some (.ref C))->iR K C=true∧PySem.W.kitOne K (.ref C) (.ref D)=some (kK cls T)
 no:PySem.W.kitOne K (.type "NoneType") (.ref D)=some false
structure mQ (K:PySem.W.Frag)(exs:List Str):Prop where
 ex:∀ cls∈exs,∀ C,PySem.W.nsIn K mainGlobals cls=some (some (.ref C))->iR K C=true∧PySem.W.kitOne K (.ref C) (.type "ValueError")=some true
 no:PySem.W.kitOne K (.type "NoneType") (.type "ValueError")=some false
def za (K:PySem.W.Frag)(exs:List Str)(T:Str)(c:V):List V->Hp->VK->Prop:=fun xs H Q=>∃ x d r,xs=[x,c]∧az K H x d∧cZ exs T d=some (.bool r)∧Q (.bl r) H
theorem DR {X:Cx}{pins:List (Addr×Obj)}{σ:St}{H:Hp}{s:Shared}{e:Addr}{cls:Str}{fv:List (Str×V)}(I:Inv X pins σ H s)(h:i_ X.K H e cls fv) :
  ∃ C ox od,PySem.W.InstAt s.heap e ox C od∧PySem.W.nsIn X.K mainGlobals cls=some (some (.ref C)):=by
 obtain⟨oe,C,vs,h1,h2,h3,h4,h5⟩:=id h
 obtain⟨q,_⟩:=(show c9 X.prog X.w H s.heap e (.frz oe _) from I.hok e _ h1)
 have hn:PySem.W.notCls oe=true:=by unfold PySem.W.notCls;rw[h3]
 rcases h5 with ⟨_,h5⟩ | ⟨dx,h5,h6⟩
 ·exact ⟨C,oe,none,(⟨q,h2,hn,by rw[h5];trivial⟩),h4⟩
 ·obtain⟨o,ho⟩:=(I.hok dx _ h6).there
  exact ⟨C,oe,some o,(⟨q,h2,hn,by rw[h5];exact ho⟩),h4⟩
theorem vA {X:Cx}{exs:List Str}{T:Str}{c:V}{cv:Value}(rc:RelV c cv)(rc1:∀ u,RelV c u->u=cv)
  (hx:∀ cls∈exs,∀ C,PySem.W.nsIn X.K mainGlobals cls=some (some (.ref C))->iR X.K C=true∧PySem.W.kitOne X.K (.ref C) cv=some (kK cls T)) (hno:PySem.W.kitOne X.K (.type "NoneType") cv=some false) :
  dz X (.builtin "isinstance") (za X.K exs T c):=by
 intro pins s σ H xs us Q I r h
 revert h
 refine fun zqq=>L2.yo zqq fun x d r1 zq3 D hd q=>?_
 clear zqq
 subst zq3
 obtain⟨u,c',zq2,rx,rc'⟩:=r.two
 subst zq2
 cases rc1 c' rc'
 cases D with
 | non=>
  cases hd
  cases (show u=Value.none from rx)
  exact PySem.W.kia_one PySem.W.kitx_none I.kIn True.intro hno (fun z=>nomatch z) fun tk=>⟨.bl _,H,I.tok tk,rfl,q⟩
 | @exc e cls fv fd hv hr=>
  have hd:(if exs.contains cls=true then some (kK cls T) else none).map PyData.bool=some (.bool r1):=hd
  by_cases hm:exs.contains cls=true
  case neg=>rw[if_neg hm] at hd;exact L2.aQ hd
  rw[if_pos hm] at hd
  cases hd
  cases (show u=Value.ref e from rx)
  obtain⟨C,ox,od,ia,hn⟩:=DR I hv
  obtain⟨k1,k2⟩:=hx cls (List.contains_iff_mem.mp hm) C hn
  exact PySem.W.kia_one (En (we k1)) I.kIn ia k2 (fun z=>nomatch z) fun tk=>⟨.bl _,H,I.tok tk,rfl,q⟩
 | _=>exact L2.aQ hd
section
variable {X:Cx}{O:Ow}{e:Expr}{f:aa->Option PyData}{p p2 pos:Pos}{exs:List Str}{T:Str}{D:Addr}
theorem D0 {d r:PyData}(h:cZ exs T d=some r):∃ b,r=.bool b:=by
 obtain⟨b,_,rfl⟩:=map_some h
 exact⟨b,rfl⟩
theorem wZ {c:V}(hc:True):∀ σ H Q,tV X.K O (fun ρ=>(f ρ).bind (cZ exs T)) σ H Q->tu (za X.K exs T c) (o9 (tR X.K O f) (o9 (tC c) tF)) σ H Q:=fun σ H Q zpat=>by
 obtain⟨hid,H0,ρ,ow,r,E,hf,k⟩:=zpat
 obtain⟨d,g1,g2⟩:=bind_some hf
 obtain⟨b,zq1⟩:=D0 g2
 subst zq1
 exact⟨hid,H0,ρ,ow,d,E,g1,fun v H' s D=>⟨v,d,b,rfl,D.mono (bA _ _),g2,k _ H' s (.bl _)⟩⟩
theorem eS (I:IsT X.K X.mg exs T D)(he:PR X O e f)(hg:Gl X "isinstance")(hm:X.mg "isinstance"=none)(hgT:Gl X T)(hd:(T==("__debug__":Str))=false:=by decide)
  (h1:starEach [e,.Name T p2] X.env=(false,eval e X.env)::starEach [.Name T p2] X.env:=by rfl) (h2:starEach [.Name T p2] X.env=(false,eval (.Name T p2) X.env)::starEach [] X.env:=by rfl)
  (hpl:(backTo pos (starEach [.Name T p2] X.env)).any (·.1)=false:=by rfl):PV X O (.Call (.Name "isinstance" p) [e,.Name T p2] [] pos) (fun ρ=>(f ρ).bind (cZ exs T)):=
 (jC (vA (c:=.ref D) (cv:=.ref D) rfl (fun u r=>r) I.ex I.no) hg hm PyProof.Rows.boot_isinstance (pa_cons he (pa_cons (yI (v:=.ref D) hgT I.mg rfl hd) pa_nil h2) h1) (by decide) (by decide) h1 hpl).imp (wZ trivial)
theorem Bz:bootBuiltins "ValueError"=some (.type "ValueError"):=by decide +kernel
theorem Kk (I:mQ X.K exs)(he:PR X O e f)(hg:Gl X "isinstance")(hm:X.mg "isinstance"=none)(hgT:Gl X "ValueError")(hmT:X.mg "ValueError"=none)(hvT:bootBuiltins "ValueError"=some (.type "ValueError"))
  (h1:starEach [e,.Name "ValueError" p2] X.env=(false,eval e X.env)::starEach [.Name "ValueError" p2] X.env:=by rfl) (h2:starEach [.Name "ValueError" p2] X.env=(false,eval (.Name "ValueError" p2) X.env)::starEach [] X.env:=by rfl)
  (hpl:(backTo pos (starEach [.Name "ValueError" p2] X.env)).any (·.1)=false:=by rfl):PV X O (.Call (.Name "isinstance" p) [e,.Name "ValueError" p2] [] pos) (fun ρ=>(f ρ).bind (cZ exs "ValueError")):=
 (jC (vA (T:="ValueError") (c:=.ty "ValueError") (cv:=.type "ValueError") rfl (fun u r=>r) (fun cls h C hC=>⟨(I.ex cls h C hC).1,by rw[(I.ex cls h C hC).2];simp[kK]⟩) I.no) hg hm PyProof.Rows.boot_isinstance (pa_cons he (pa_cons (Gw (v:=.ty "ValueError") hgT hmT hvT rfl (by decide) (by decide)) pa_nil h2) h1) (by decide) (by decide) h1 hpl).imp (wZ trivial)
end
end L2
namespace L2
variable [Reg]
def g_:PyData->Bool
 | .none=>true
 | .bool _=>true
 | .int _=>true
 | .str _=>true
 | _=>false
def kh:PyData->PyData->Bool
 | .none,.none=>true
 | .bool a,.bool b=>a==b
 | .bool a,.int b=>(if a then 1 else 0)==b
 | .int a,.bool b=>a==(if b then 1 else 0)
 | .int a,.int b=>a==b
 | .str a,.str b=>a==b
 | _,_=>false
theorem n4 {K:PySem.W.Frag}{H:Hp}{v:V}{d:PyData}(h:az K H v d)(f:g_ d=true):eK v=true∧Sc v d:=by
 cases h with
 | non=>exact⟨rfl,.non⟩
 | bl b=>exact⟨rfl,.bl b⟩
 | int i=>exact⟨rfl,.int i⟩
 | str x=>exact⟨rfl,.str x⟩
 | _=>exact L2.dF f
theorem CD {v w:V}{d e:PyData}(h:Sc v d)(k:Sc w e):eY v w=kh d e:=by
 cases h <;> cases k <;> rfl
theorem qY {K:PySem.W.Frag}{H:Hp}{w:V}{e:PyData}(k:Sc w e):∀ {vs:List V} {ds:List PyData},ar K H vs ds->ds.all g_=true->vs.all eK=true∧vs.map (fun v=>eY v w)=ds.map (fun d=>kh d e):=by
 intro vs ds h
 refine h.ind (M:=fun vs ds=>ds.all g_=true->vs.all eK=true∧vs.map (fun v=>eY v w)=ds.map (fun d=>kh d e)) (fun _=>⟨rfl,rfl⟩) ?_
 ·intro v d vs ds h _ ih f
  rw[List.all_cons,Bool.and_eq_true] at f
  obtain⟨a1,a2⟩:=n4 h f.1
  obtain⟨b1,b2⟩:=ih f.2
  exact⟨by rw[List.all_cons,a1,b1];rfl,by rw[List.map_cons,List.map_cons,b2,CD a2 k]⟩
theorem EI {x:V}{xs:List V}{us:List Value}(h:aG xs us):xs.all eK=true->us.map (fU x)=xs.map fun y=>eY y x:=by
 induction h with
 | nil=>exact fun _=>rfl
 | cons r t ih=>
  intro f
  rw[List.all_cons,Bool.and_eq_true] at f
  rw[List.map_cons,List.map_cons,qW r f.1,ih f.2]
theorem findIdx_map {α:Type}(p:α->Bool):∀ xs:List α,(xs.map p).findIdx? id=xs.findIdx? p
 | []=>rfl
 | x::r=>by
  rw[List.map_cons,List.findIdx?_cons,List.findIdx?_cons,findIdx_map p r]
  rfl
section
variable {X:Cx}{O:Ow}{a b:Expr}{fa fb:aa->Option PyData}{apos cpos pos p:Pos}
def Hy (K:PySem.W.Frag):V->List V->Hp->VK->Prop:=fun x vs H Q=>∃ l y xs j,x=.ref l∧vs=[y]∧aN K H l xs∧eK y=true∧xs.all eK=true∧(xs.map fun z=>eY z y).findIdx? id=some j∧Q (.int (j:Nat)) H
theorem EO:j3 X "list.index" (Hy X.K):=by
 intro pins s σ H x vs v us Q I rx rv h
 revert h
 refine fun zqq=>L2.yr zqq fun l y xs j zq4 zq5 hq fy fs hj q=>?_
 clear zqq
 subst zq4
 subst zq5
 cases rx
 obtain⟨u,zq1,ru⟩:=rv.one
 subst zq1
 obtain⟨its,r,pl,hz⟩:=I.list hq
 obtain⟨⟨cls,dd,data,sl⟩,ho,hc,n,hd⟩:=pl.isList
 simp only at hc hd
 subst hc hd
 rw[← EI r fs,findIdx_map] at hj
 have hjl:j<its.length:=(List.findIdx?_eq_some_iff_findIdx_eq.mp hj).1
 have hl:=r.length
 have hz':sizeLine<2 ^ 62:=by decide
 obtain⟨h1,h2⟩:=List.findIdx?_eq_some_iff_getElem.mp hj
 refine call_meets PySem.F.slot_list_index ⟨_,ho,rfl⟩ PySem.F.entry_list_index (PySem.F.args_list_index_2 _ _)
  (SeqAt.list_indexAt l its.toArray n dd sl u (fU y) j (by simpa using hjl) (by omega) (by simpa using h2.1) (fun m hm hlt=>by
   have:=h2.2 m hlt
   simpa using this)) ⟨ho,fun w hw=>rO ru fy r fs w (by simpa using hw),⟨.int (j:Nat),H,I.tok _,⟨_,rfl⟩,q⟩⟩
def rk:PyData->PyData->Option PyData
 | .list ds,e=>if (ds.all g_&&g_ e)=true then ((ds.map fun d=>kh d e).findIdx? id).map fun j=>.int (j:Nat) else none
 | _,_=>none
theorem Kj (ha:PR X O a fa)(hb:PR X O b fb)(hbase:attributeBase a "index" X.env (eval a X.env)=eval a X.env:=by rfl)
  (hfew:((backTo cpos (starEach [b] X.env)).all (fun x=>!x.1)&&(backToKw cpos (keywordEach [] X.env)).all (fun x=>x.1.isSome)&&decide ([b].length+([]:List Keyword).length+(if ([]:List Keyword).isEmpty then 0 else 1)<30))=true:=by rfl)
  (hline:(apos.endLine==cpos.line)=true:=by rfl) (hst:starEach [b] X.env=(false,eval b X.env)::starEach [] X.env:=by rfl) (hplain:(backTo cpos (starEach [] X.env)).any (·.1)=false:=by rfl) :
  PV X O (.Call (.Attribute a "index" apos) [b] [] cpos) (fun ρ=>ae (fa ρ) (fb ρ) rk):=
 (sd PySem.F.plainAttrs_list PySem.F.slot_list_index PySem.F.type_list_index EO ha (pa_cons hb pa_nil hst) hbase hfew hline hst hplain).imp fun σ H Q zpat=>by
  obtain⟨hid,H0,ρ,ow,r,E,hf,k⟩:=zpat
  obtain⟨d,e,h1,h2,h3⟩:=qM hf
  unfold rk at h3
  split at h3
  case h_2=>cases h3
  split at h3
  case isFalse=>cases h3
  rename_i ds hfl
  rw[Bool.and_eq_true] at hfl
  obtain⟨j,h4,rfl⟩:=map_some h3
  refine⟨hid,H0,ρ,ow,_,E,h1,fun x H1 s1 D1=>?_⟩
  obtain⟨l,xs,rfl,q1,r1⟩:=df D1
  refine⟨.inl ⟨rfl,xs,(bA _ _).seq q1⟩,hid,H0,ρ,ow,e,E.mono s1,h2,fun y H2 s2 D2=>?_⟩
  obtain⟨f1,f2⟩:=n4 D2 hfl.2
  obtain⟨g1,g2⟩:=qY f2 r1 hfl.1
  exact ⟨l,y,xs,j,rfl,rfl,s2.seq ((bA _ _).seq q1),f1,g1,(by rw[g2];exact h4),k _ H2 (s1.trans s2) (.int _)⟩
def inD:PyData->PyData->Option PyData
 | e,.list ds=>if (ds.all g_&&g_ e)=true then some (.bool ((ds.map fun d=>kh d e).any id)) else none
 | e,.tuple ds=>if (ds.all g_&&g_ e)=true then some (.bool ((ds.map fun d=>kh d e).any id)) else none
 | _,_=>none
def e8 (e d:PyData):Option PyData:=(inD e d).bind fun r=>match r with
 | .bool b=>some (.bool !b)
 | _=>none
theorem u_ {α:Type}(p:α->Bool)(xs:List α):(xs.map p).any id=xs.any p:=by
 rw[List.any_map];rfl
theorem DM {K:PySem.W.Frag}{neg:Bool}{x y:V}{H:Hp}{e d r:PyData}(D1:az K H x e)(D2:az K H y d)(h:inD e d=some r):∃ b,r=.bool b∧∀ Q:VK,Q (.bl (if neg then !b else b)) H->y_ K neg x y H Q:=by
 unfold inD at h
 split at h
 case h_3=>cases h
 ·split at h
  case isFalse=>cases h
  rename_i hfl
  rw[Bool.and_eq_true] at hfl
  obtain rfl:=Option.some.inj h
  obtain⟨l,xs,rfl,q1,r1⟩:=df D2
  obtain⟨f1,f2⟩:=n4 D1 hfl.2
  obtain⟨g1,g2⟩:=qY f2 r1 hfl.1
  refine⟨_,rfl,fun Q q=>⟨l,xs,rfl,.inl q1,f1,g1,?_⟩⟩
  unfold n8
  rw[← u_,g2]
  exact q
 ·split at h
  case isFalse=>cases h
  rename_i hfl
  rw[Bool.and_eq_true] at hfl
  obtain rfl:=Option.some.inj h
  obtain⟨l,xs,rfl,q1,r1⟩:=nQ D2
  obtain⟨f1,f2⟩:=n4 D1 hfl.2
  obtain⟨g1,g2⟩:=qY f2 r1 hfl.1
  refine⟨_,rfl,fun Q q=>⟨l,xs,rfl,.inr q1,f1,g1,?_⟩⟩
  unfold n8
  rw[← u_,g2]
  exact q
theorem BE:eU X .NotIn e8:=⟨_,Gq,fun x y H d e r Q D1 D2 h k=>by
 obtain⟨r1,h1,h2⟩:=bind_some h
 obtain⟨b,zq1,q⟩:=DM (neg:=true) D1 D2 h1
 subst zq1
 obtain rfl:=Option.some.inj h2
 exact q Q (k _ (.bl _))⟩
theorem BS (hc:X.calm=true):dz X (.builtin "sum") (fun xs H Q=>∃ (a:Addr) (ns:List Int),xs=[.ref a]∧aN X.K H a (ns.map V.int)∧Q (.int ns.sum) H):=by
 intro pins s σ H xs us Q I r h
 revert h
 refine fun zqq=>L2.kA zqq fun q ns zq2 hq k=>?_
 clear zqq
 subst zq2
 obtain⟨u,zq1,rx⟩:=vals1 r
 subst zq1
 cases rx
 obtain⟨its,r',pl,hz⟩:=I.list hq
 have hI:=intsAre_of r'
 have hl:=pl.isList
 obtain⟨xs,hx⟩:=hI.allInts.items
 have hn:numsOf its.toArray.toList=ns:=by rw[show its.toArray.toList=its from rfl,hI.numsOf]
 rw[hx] at hl hn
 rw[nums_intItems] at hn
 refine sum_intListG (I.ok.hd hc) hl fun h' tk t' hk=>?_
 rw[preSum_eq,List.take_of_length_le (by simp),hn]
 exact⟨.int _,H,I.kept (t':=tk) hk,⟨t',rfl⟩,k⟩
def tq:PyData->Option PyData
 | .list ds=>(iU ds).map fun ns=>.int ns.sum
 | _=>none
theorem v_sum (hc:X.calm=true)(hg:Gl X "sum")(hm:X.mg "sum"=none)(ha:PR X O a fa)(he:starEach [a] X.env=(false,eval a X.env)::starEach [] X.env:=by rfl)(hpl:(backTo pos (starEach [] X.env)).any (·.1)=false:=by rfl)
  (hv:bootBuiltins "sum"=some (.builtin "sum"):=by decide +kernel):PV X O (.Call (.Name "sum" p) [a] [] pos) (fun ρ=>(fa ρ).bind tq):=
 (jC (BS hc) hg hm hv (pa_cons ha pa_nil he) (by decide) (by decide) he hpl).imp fun σ H Q zpat=>by
  obtain⟨hid,H0,ρ,ow,r,E,hf,k⟩:=zpat
  obtain⟨d,h1,h2⟩:=bind_some hf
  refine⟨hid,H0,ρ,ow,d,E,h1,fun x H1 s1 D1=>?_⟩
  unfold tq at h2
  split at h2
  case h_2=>cases h2
  obtain⟨ns,h3,rfl⟩:=map_some h2
  have e:=n_ h3
  subst e
  obtain⟨q,vs,rfl,q1,r1⟩:=df D1
  have e2:=r1.isInts
  subst e2
  exact ⟨q,ns,rfl,(bA _ _).seq q1,k _ H1 s1 (.int _)⟩
end
end L2
namespace L2
variable [Reg]
section
variable {X:Cx}{O:Ow}
theorem Inv.swap {pins pl pl':List (Addr×Obj)}{σ:St}{H:Hp}{s:Shared}{a:Addr}{h':Heap}{t':Nat}(I:Inv X (pins++pl) σ H s)(f:b_ X pins H a)(k:∀ b o,b≠a->s.heap.get? b=some o->h'.get? b=some o)
  (hp:∀ p∈pl',(p∈pl∧p.1≠a)∨(p.1=a∧h'.get? a=some p.2∧∀ v,p.2.data≠.cell v)):Inv X (pins++pl') σ H {s with heap:=h',toks:=t' }:=by
 obtain⟨f0,f1,f2,f3,f4,f5⟩:=id f
 have I1:Inv X pins σ H {s with heap:=h',toks:=t' }:=I.unpinned.turned (t':=t') k f0 f1 f3 f4 f5
 refine I1.pins_of fun p hm=>?_
 rcases List.mem_append.mp hm with hm | hm
 ·exact I1.pin p (List.mem_append_right _ hm)
 ·rcases hp p hm with ⟨h1,h2⟩ | ⟨h1,h2,h3⟩
  ·obtain⟨g1,g2⟩:=I.pin p (List.mem_append_right _ (List.mem_append_right _ h1))
   exact⟨k _ _ h2 g1,g2⟩
  ·exact⟨by rw[h1];exact h2,by rw[h1];exact f0,by rw[h1];exact f1,by rw[h1];exact f2,h3⟩
def jw (F:PyData->Option PyData)(d:PyData):Option Int:=(F d).bind dh
def jy (F:PyData->Option PyData):PyData->Int->List PyData->Option PyData
 | b,_,[]=>some b
 | b,kb,d::r=>(jw F d).bind fun k=>if k<kb then jy F d k r else jy F b kb r
def l3 (F:PyData->Option PyData):PyData->Option PyData
 | .list (d::r)=>(jw F d).bind fun k=>jy F d k r
 | _=>none
theorem o5 {c:String}{xs:Array Value}{n:Nat}:∀ v,(seqObj c xs n).data≠.cell v:=fun v z=>by cases z
section
variable {a:Expr}{fa:aa->Option PyData}{pos p:Pos}
end
end
end L2
namespace L2
variable [Reg]
section
variable {X:Cx}{O:Ow}{e:Expr}{pos:Pos}
def nX (i:Nat)(ρ:aa)(zs:List PyData):Option aq:=((ρ[i]?).join.bind br).bind fun ds=>if decide (ds.length+zs.length<1000)=true then some (.nx (ρ.set i (some (.list (ds++zs))))) else none
theorem ID {i:Nat}{x:Str}{p apos cpos:Pos}{f:aa->Option (List PyData)}(hx:PE X (.Name x p) (fG i))(he:bL X O e f)(hO:O.s.lookup i=some (.lst .cl):=by rfl)
  (hbase:attributeBase (.Name x p) "extend" X.env (eval (.Name x p) X.env)=eval (.Name x p) X.env:=by rfl)
  (hfew:((backTo cpos (starEach [e] X.env)).all (fun x=>!x.1)&&(backToKw cpos (keywordEach [] X.env)).all (fun x=>x.1.isSome)&&decide ([e].length+([]:List Keyword).length+(if ([]:List Keyword).isEmpty then 0 else 1)<30))=true:=by rfl)
  (hline:(apos.endLine==cpos.line)=true:=by rfl) (hst:starEach [e] X.env=(false,eval e X.env)::starEach [] X.env:=by rfl) (hplain:(backTo cpos (starEach [] X.env)).any (·.1)=false:=by rfl)
  (hs:swapsWith (.Call (.Attribute (.Name x p) "extend" apos) [e] [] cpos) none pos.line X.env=pure false:=by rfl) :
  c_ X O (.Expr (.Call (.Attribute (.Name x p) "extend" apos) [e] [] cpos) pos) (fun ρ=>(f ρ).bind (nX i ρ)):=
 (sg (sd PySem.F.plainAttrs_list PySem.F.slot_list_extend PySem.F.type_list_extend EN (vj hx hO) (pa_cons he pa_nil hst) hbase hfew hline hst hplain) hs).imp fun D σ H zpat=>by
  obtain⟨hid,H0,ρ,ow,o,E,hf,k⟩:=zpat
  obtain⟨zs,g1,g2⟩:=bind_some hf
  obtain⟨ds,g3,g4⟩:=bind_some g2
  obtain⟨dl,g5,g6⟩:=bind_some g3
  rw[fD g6] at g5
  split at g4
  case isFalse=>cases g4
  rename_i hlt
  obtain rfl:=Option.some.inj g4
  refine ⟨hid,H0,ρ,ow,.list ds,[],ds,E,join_some g5,rfl,rfl,rfl,(fun H1 l vs s1 hH hD hl hE=>⟨.inl ⟨rfl,vs,aN.of hH⟩,hid,H0,ρ,ow,zs,E.mono s1,g1,fun b ws H2 s2 nb hb Dz=>?_⟩)⟩
  have hz:1000<sizeLine:=by decide
  have hlt':=of_decide_eq_true hlt
  refine ⟨l,b,vs,ws,rfl,rfl,s2 _ _ hH,hb,(by rw[hD.length,Dz.length];omega),k _ _ ow ?_ (hE H2 s2 _ _ ((hD.mono (aY s2 _)).append (Dz.mono (fR (tN fun p hp=>List.mem_cons_of_mem _ hp)))))⟩
  rw[iQ (pd hl)]
  exact (aY s1 _).trans (aY s2 _)
theorem vg (a v d:Value):argsOk "min" ⟨[a],[(Str.ofString "key",v),(Str.ofString "default",d)]⟩:=by unfold argsOk;kernel_rfl
def iY:PyData->Option PyData
 | .list ds=>some (.int ds.length)
 | _=>none
def l4:PyData->Option PyData
 | .list []=>some (.list [])
 | d=>l3 iY d
def uA (X:Cx)(σ:St)(Hb:Hp)(hid:Addr->Prop)(F:PyData->Option PyData):Prop:=
 ∀ (pins':List (Addr×Obj)) (H1:Hp) (s1:Shared) (v:V) (u:Value) (d:PyData) (k:Int),Inv X pins' σ H1 s1->aj Hb H1->RelV v u->az X.K (ah H1 hid) v d->jw F d=some k ->
  wpAny (model X.prog X.w) X.A.in1 (call (.builtin "len") [u]) (EP X pins' σ fun w H'=>aj H1 H'∧w=.int k) (fun _ _=>False) s1
theorem EL {F:PyData->Option PyData}{S it l z0:Addr}{pins:List (Addr×Obj)}{σ:St}{Hb:Hp}{hid:Addr->Prop}{xs:List V}{R:Result->Shared->Prop}{r:PyData}
  (hh:X.A.handled=none) (key:uA X σ Hb hid F) (hSi:S≠it) (fS:∀ H,H S=none->b_ X pins H S) (fI:∀ H,H it=none->b_ X pins H it) (hl:aN X.K Hb l xs)
  (hR:∀ v u H' s',Inv X pins σ H' s'->RelV v u->aj Hb H'->az X.K (ah H' hid) v r->R (.ok (.ret u)) s') :
  ∀ (ds:List PyData) (j:Nat) (s:Shared) (H:Hp) (b:PyData) (kb:Int) (x:V) (vb:Value) (tb:Tok) (c:Nat) (oI:Obj),Inv X (pins++[(S,seqObj "list" #[vb,.int kb tb] c),(it,oI)]) σ H s->aj Hb H->s.heap.IsListIter it l j->ar X.K (ah H hid) (xs.drop j) ds->RelV x vb->az X.K (ah H hid) x b->jy F b kb ds=some r ->
   codeAny (model X.prog X.w) X.A (.builtin "min.loop" ⟨[.ref it,.builtin "len",.ref S],[("default",.ref z0)]⟩) R s:=by
 have hname:(toString "min"++toString ".loop":String)="min.loop":=by decide
 intro ds
 induction ds with
 | nil=>
  intro j s H b kb x vb tb c oI I sm hit D rv D1 hm
  obtain rfl:=Option.some.inj hm
  have pS:=I.pin (S,seqObj "list" #[vb,.int kb tb] c) (by simp)
  have pI:=I.pin (it,oI) (by simp)
  obtain⟨its,rs,pl,hz⟩:=I.list (sm.seq hl)
  have hlen:=rs.length
  have hdl:=D.length
  rw[List.length_drop] at hdl
  refine codeAny_builtin PySem.F.entry_min_loop ?_
  rw[Around.under_plainId PySem.F.plain_min_loop _]
  show wpAny _ X.A.in1 (seqItems? (.ref S) >>= _) _ _ _
  refine wpAny_bind (wpAny_seqItems pS.1 rfl ?_)
  show wpAny _ X.A.in1 (tryCatch (pyNext (.ref it)) _ >>= _) _ _ _
  refine wpAny_bind (wpAny_tryCatch (wpAny_pyNext_list_end (A:=X.A.in1) hh hit pl.isList (by simp at hdl ⊢;omega) fun h' eb=>?_))
  have I1:Inv X (pins++[(S,seqObj "list" #[vb,.int kb tb] c)]) σ H {s with heap:=h' }:=I.swap (t':=s.toks) (fI H pI.2.1) (fun b o hb e=>eb b o hb e) fun p hp=>by
   obtain rfl:p=_:=List.mem_singleton.mp hp
   exact .inl ⟨by simp,hSi⟩
  have pS1:=I1.pin (S,seqObj "list" #[vb,.int kb tb] c) (by simp)
  have s1:=Heap.SameBut.update h' S (Obj.mapSeq fun _=>(#[]:Array Value))
  show wpAny _ X.A.in1 (updateSeq S (fun _=>#[]) >>= _) _ _ _
  refine wpAny_bind ?_
  refine wpAny_updateSeq pS1.1 rfl (wpAny_bind (wpAny_letGo (wpAny_pure ?_)))
  have I2:=I1.swap (pl':=[]) (t':=s.toks) (h':=h'.update S (Obj.mapSeq fun _=>(#[]:Array Value))) (fS H pS.2.1) (fun b o hb e=>(s1.2 b hb).trans e) fun p hp=>by cases hp
  rw[List.append_nil] at I2
  exact hR x vb H _ I2 rv sm D1
 | cons d ds ih=>
  intro j s H b kb x vb tb c oI I sm hit D rv D1 hm
  unfold jy at hm
  obtain⟨k,hk,hm⟩:=bind_some hm
  have pS:=I.pin (S,seqObj "list" #[vb,.int kb tb] c) (by simp)
  have pI:=I.pin (it,oI) (by simp)
  obtain⟨its,rs,pl,hz⟩:=I.list (sm.seq hl)
  obtain⟨y,ys,hxs,Dy,Dr⟩:∃ y ys,xs.drop j=y::ys∧az X.K (ah H hid) y d∧ar X.K (ah H hid) ys ds:=by
   generalize xs.drop j=zs at D
   cases D with
   | cons a b=>exact⟨_,_,rfl,a,b⟩
  have hy:xs[j]?=some y:=by
   have:=congrArg (fun l:List V=>l[0]?) hxs
   simpa using this
  have hys:xs.drop (j+1)=ys:=by
   have:=congrArg List.tail hxs
   simpa using this
  obtain⟨u,hu,ru⟩:=rs.get hy
  refine codeAny_builtin PySem.F.entry_min_loop ?_
  rw[Around.under_plainId PySem.F.plain_min_loop _]
  show wpAny _ X.A.in1 (seqItems? (.ref S) >>= _) _ _ _
  refine wpAny_bind (wpAny_seqItems pS.1 rfl ?_)
  show wpAny _ X.A.in1 (tryCatch (pyNext (.ref it)) _ >>= _) _ _ _
  refine wpAny_bind (wpAny_tryCatch (wpAny_pyNext_list_item hit pl.isList (x:=u) (by simpa using hu) fun h' st' sb=>?_))
  obtain⟨oI',e1,e2,e3⟩:=id st'
  have I1:Inv X (pins++[(S,seqObj "list" #[vb,.int kb tb] c),(it,oI')]) σ H {s with heap:=h' }:=I.swap (t':=s.toks) (fI H pI.2.1) (fun b o hb e=>(sb.2 b hb).trans e) fun p hp=>by
   rcases List.mem_cons.mp hp with rfl | hp
   ·exact .inl ⟨by simp,hSi⟩
   ·obtain rfl:p=_:=List.mem_singleton.mp hp
    exact .inr ⟨rfl,e1,fun v z=>by rw[e3] at z;cases z⟩
  show wpAny _ X.A.in1 (tryCatch (holding [u] (call (.builtin "len") [u])) _ >>= _) _ _ _
  refine wpAny_bind (wpAny_tryCatch (wpAny_holding (wpAny_mono (key _ H _ y u d k I1 sm ru Dy hk) (fun uk s2 hq=>?_) fun _ _ hF=>hF.elim)))
  obtain⟨w,H2,I2,rw2,sm2,rfl⟩:=hq
  obtain⟨t2,rfl⟩:∃ t2,uk=.int k t2:=rw2
  have pS2:=I2.pin (S,seqObj "list" #[vb,.int kb tb] c) (by simp)
  have pI2:=I2.pin (it,oI') (by simp)
  have hit2:s2.heap.IsListIter it l (j+1):=⟨oI',pI2.1,e2,e3⟩
  show wpAny _ X.A.in1 (tryCatch (holding [u,.int k t2] (richCompare .Lt (.int k t2) (.int kb tb) >>= _)) _ >>= _) _ _ _
  refine wpAny_bind (wpAny_tryCatch (wpAny_holding (wpAny_bind (CmpOf.ints_lt (prog:=X.prog) (w:=X.w) (A:=X.A.in1) (P:=fun i v=>∃ t,v=.int (if i=0 then k else kb) t) (fun i=>if i=0 then k else kb) (fun i v h=>h) 0 1 _ _ _ _ _ ⟨t2,rfl⟩ ⟨tb,rfl⟩ ?_))))
  refine wpAny_bind (wpAny_holding (wpAny_truthy_bool ?_))
  refine wpAny_bind (wpAny_letGo (wpAny_pure ?_))
  have Dr2:ar X.K (ah H2 hid) (xs.drop (j+1)) ds:=by rw[hys];exact Dr.mono (aY sm2 _)
  by_cases hb':k<kb
  ·have s1:=Heap.SameBut.update s2.heap S (Obj.mapSeq fun _=>#[u,.int k t2])
   obtain⟨c2,hc2⟩:∃ c2,(s2.heap.update S (Obj.mapSeq fun _=>#[u,.int k t2])).get? S=some (seqObj "list" #[u,.int k t2] c2):=⟨_,get?_update_seq pS2.1 fun _=>#[u,.int k t2]⟩
   rw[if_pos hb'] at hm
   simp only[hb',decide_true,if_true,if_neg (show ¬ (1=0) by decide)]
   refine wpAny_bind ?_
   refine wpAny_updateSeq pS2.1 rfl (wpAny_bind (wpAny_letGo ?_))
   rw[hname]
   have I3:Inv X (pins++[(S,seqObj "list" #[u,.int k t2] c2),(it,oI')]) σ H2 {s2 with heap:=s2.heap.update S (Obj.mapSeq fun _=>#[u,.int k t2])}:=I2.swap (t':=s2.toks) (fS H2 pS2.2.1) (fun b o hb e=>(s1.2 b hb).trans e) fun p hp=>by
    rcases List.mem_cons.mp hp with rfl | hp
    ·exact .inr ⟨rfl,hc2,o5⟩
    ·obtain rfl:p=_:=List.mem_singleton.mp hp
     exact .inl ⟨by simp,hSi.symm⟩
   exact wpAny_pure ⟨plainId_quiet PySem.F.plain_min_loop _,ih (j+1) _ H2 d k y u t2 c2 oI' I3 (sm.trans sm2) ⟨oI',(s1.2 it hSi.symm).trans pI2.1,e2,e3⟩ Dr2 ru (Dy.mono (aY sm2 _)) hm⟩
  ·rw[if_neg hb'] at hm
   simp only[hb',decide_false,Bool.false_eq_true,if_false,if_true,if_neg (show ¬ (1=0) by decide)]
   refine wpAny_bind (wpAny_letGo ?_)
   rw[hname]
   exact wpAny_pure ⟨plainId_quiet PySem.F.plain_min_loop _,ih (j+1) _ H2 b kb x vb tb c oI' I2 (sm.trans sm2) hit2 Dr2 rv (D1.mono (aY sm2 _)) hm⟩
theorem BM {F:PyData->Option PyData}{l z0:Addr}{pins:List (Addr×Obj)}{σ:St}{H:Hp}{s:Shared}{hid:Addr->Prop}{xs:List V}{ds:List PyData}{r:PyData}{Q:VK}{E':Value->Shared->Prop}
  (hh:X.A.handled=none) (I:Inv X pins σ H s) (key:uA X σ H hid F) (hl:aN X.K H l xs) (D:ar X.K (ah H hid) xs ds) (hm:l3 F (.list ds)=some r) (q:∀ v H',aj H H'->az X.K (ah H' hid) v r->Q v H') :
  wpAny (model X.prog X.w) X.A (call (.builtin "min") [.ref l] [(Str.ofString "key",.builtin "len"),(Str.ofString "default",.ref z0)]) (EP X pins σ Q) E' s:=by
 have hname:(toString "min"++toString ".loop":String)="min.loop":=by decide
 cases D with
 | nil=>exact L2.aQ hm
 | @cons y d ys ds' Dy Dr=>
 unfold l3 at hm
 obtain⟨k,hk,hm⟩:=bind_some hm
 obtain⟨its,rs,pl,hz⟩:=I.list hl
 refine kmk_tree PySem.F.kind_min PySem.F.plain_min PySem.F.entry_min (vg _ _ _) ?_
 show wpAny _ X.A.in1 (Builtin.Builtins.bindParams "min" ["key","default"] 0 ⟨[],[(Str.ofString "key",.builtin "len"),(Str.ofString "default",.ref z0)]⟩ >>= _) _ _ s
 refine wpAny_bind (wpAny_of_eq (show Builtin.Builtins.bindParams "min" ["key","default"] 0 ⟨[],[(Str.ofString "key",.builtin "len"),(Str.ofString "default",.ref z0)]⟩=pure [some (.builtin "len"),some (.ref z0)] from rfl) ?_)
 refine wpAny_bind (wpAny_pure ?_)
 refine wpAny_bind (wpAny_pyIter_list pl.isList ?_)
 refine wpAny_bind (wpAny_newList ?_ (Nat.zero_le _))
 rw[hname]
 generalize hI1:s.heap.push {cls:=.type "list_iterator",data:=.fields #[.ref l,.int 0 0]}=h1
 have z1:h1.objs.size=s.heap.objs.size+1:=by rw[← hI1];exact size_push' ..
 have k1:∀ b o,s.heap.get? b=some o->h1.get? b=some o:=fun b o e=>by rw[← hI1];exact Heap.get?_push_of_some _ e
 have g1:h1.get? s.heap.objs.size=some {cls:=.type "list_iterator",data:=.fields #[.ref l,.int 0 0]}:=by rw[← hI1];exact Heap.get?_push_size _ rfl
 have hSi:h1.objs.size≠s.heap.objs.size:=by omega
 have fI:∀ H',H' s.heap.objs.size=none->b_ X pins H' s.heap.objs.size:=fun H' hn=>I.fpOk (Nat.le_refl _) hn
 have fS:∀ H',H' h1.objs.size=none->b_ X pins H' h1.objs.size:=fun H' hn=>I.fpOk (by omega) hn
 have nI:H s.heap.objs.size=none:=I.hok.fresh (Nat.le_refl _)
 have nS:H h1.objs.size=none:=I.hok.fresh (by omega)
 have gS:(h1.push {cls:=.type "list",data:=.seq ([]:List Value).toArray}).get? h1.objs.size=some (seqObj "list" #[] 0):=Heap.get?_push_size _ rfl
 have gI:(h1.push {cls:=.type "list",data:=.seq ([]:List Value).toArray}).get? s.heap.objs.size=some {cls:=.type "list_iterator",data:=.fields #[.ref l,.int 0 0]}:=Heap.get?_push_of_some _ g1
 have I0:Inv X (pins++[(h1.objs.size,seqObj "list" #[] 0),(s.heap.objs.size,{cls:=.type "list_iterator",data:=.fields #[.ref l,.int 0 0]})]) σ H {s with heap:=h1.push {cls:=.type "list",data:=.seq ([]:List Value).toArray}}:=by
  have J:Inv X pins σ H {s with heap:=h1.push {cls:=.type "list",data:=.seq ([]:List Value).toArray}}:=I.kept (t':=s.toks) fun b o e=>Heap.get?_push_of_some _ (k1 b o e)
  refine J.pins_of fun p hp=>?_
  rcases List.mem_append.mp hp with hp | hp
  ·exact J.pin p (List.mem_append_right _ hp)
  ·rcases List.mem_cons.mp hp with rfl | hp
   ·obtain⟨f0,f1,f2,_⟩:=fS H nS
    exact⟨gS,f0,f1,f2,o5⟩
   ·obtain rfl:p=_:=List.mem_singleton.mp hp
    obtain⟨f0,f1,f2,_⟩:=fI H nI
    exact⟨gI,f0,f1,f2,fun v z=>by cases z⟩
 refine wpAny_pure ⟨plainId_quiet PySem.F.plain_min_loop _,?_⟩
 obtain⟨u,hu,ru⟩:=rs.get (show (y::ys)[0]?=some y from rfl)
 obtain⟨its0,rs0,pl0,hz0⟩:=I0.list hl
 obtain⟨u0,hu0,ru0⟩:=rs0.get (show (y::ys)[0]?=some y from rfl)
 have hit:(h1.push {cls:=.type "list",data:=.seq ([]:List Value).toArray}).IsListIter s.heap.objs.size l 0:=⟨_,gI,rfl,rfl⟩
 refine codeAny_builtin PySem.F.entry_min_loop ?_
 rw[Around.under_plainId PySem.F.plain_min_loop _]
 show wpAny _ X.A.in1 (seqItems? (.ref _) >>= _) _ _ _
 refine wpAny_bind (wpAny_seqItems gS rfl ?_)
 show wpAny _ X.A.in1 (tryCatch (pyNext (.ref s.heap.objs.size)) _ >>= _) _ _ _
 refine wpAny_bind (wpAny_tryCatch (wpAny_pyNext_list_item hit pl0.isList (x:=u0) (by simpa using hu0) fun h' st' sb=>?_))
 obtain⟨oI',e1,e2,e3⟩:=id st'
 have I1:Inv X (pins++[(h1.objs.size,seqObj "list" #[] 0),(s.heap.objs.size,oI')]) σ H {s with heap:=h' }:=I0.swap (t':=s.toks) (fI H nI) (fun b o hb e=>(sb.2 b hb).trans e) fun p hp=>by
  rcases List.mem_cons.mp hp with rfl | hp
  ·exact .inl ⟨by simp,hSi⟩
  ·obtain rfl:p=_:=List.mem_singleton.mp hp
   exact .inr ⟨rfl,e1,fun v z=>by rw[e3] at z;cases z⟩
 show wpAny _ X.A.in1 (tryCatch (holding [u0] (call (.builtin "len") [u0])) _ >>= _) _ _ _
 refine wpAny_bind (wpAny_tryCatch (wpAny_holding (wpAny_mono (key _ H _ y u0 d k I1 (aj.refl H) ru0 Dy hk) (fun uk s2 hq=>?_) fun _ _ hF=>hF.elim)))
 obtain⟨w,H2,I2,rw2,sm2,rfl⟩:=hq
 obtain⟨t2,rfl⟩:∃ t2,uk=.int k t2:=rw2
 have pS2:=I2.pin (h1.objs.size,seqObj "list" #[] 0) (by simp)
 have pI2:=I2.pin (s.heap.objs.size,oI') (by simp)
 have s1:=Heap.SameBut.update s2.heap h1.objs.size (Obj.mapSeq fun _=>#[u0,.int k t2])
 obtain⟨c2,hc2⟩:∃ c2,(s2.heap.update h1.objs.size (Obj.mapSeq fun _=>#[u0,.int k t2])).get? h1.objs.size=some (seqObj "list" #[u0,.int k t2] c2):=⟨_,get?_update_seq pS2.1 fun _=>#[u0,.int k t2]⟩
 show wpAny _ X.A.in1 (updateSeq h1.objs.size (fun _=>#[u0,.int k t2]) >>= _) _ _ _
 refine wpAny_bind ?_
 refine wpAny_updateSeq pS2.1 rfl ?_
 rw[hname]
 have I3:Inv X (pins++[(h1.objs.size,seqObj "list" #[u0,.int k t2] c2),(s.heap.objs.size,oI')]) σ H2 {s2 with heap:=s2.heap.update h1.objs.size (Obj.mapSeq fun _=>#[u0,.int k t2])}:=I2.swap (t':=s2.toks) (fS H2 pS2.2.1) (fun b o hb e=>(s1.2 b hb).trans e) fun p hp=>by
  rcases List.mem_cons.mp hp with rfl | hp
  ·exact .inr ⟨rfl,hc2,o5⟩
  ·obtain rfl:p=_:=List.mem_singleton.mp hp
   exact .inl ⟨by simp,hSi.symm⟩
 exact wpAny_pure ⟨plainId_quiet PySem.F.plain_min_loop _,EL hh key hSi fS fI hl (fun v u' H' s' J rv sm' D'=>⟨v,H',J,rv,q v H' sm' D'⟩) ds' 1 _ H2 d k y u0 t2 c2 oI' I3 sm2 ⟨oI',(s1.2 _ hSi.symm).trans pI2.1,e2,e3⟩ (Dr.mono (aY sm2 _)) ru0 (Dy.mono (aY sm2 _)) hm⟩
theorem BN {l z0:Addr}{pins:List (Addr×Obj)}{σ:St}{H:Hp}{s:Shared}{Q:VK}{E':Value->Shared->Prop}
  (hh:X.A.handled=none) (I:Inv X pins σ H s) (hl:aN X.K H l []) (q:Q (.ref z0) H) :
  wpAny (model X.prog X.w) X.A (call (.builtin "min") [.ref l] [(Str.ofString "key",.builtin "len"),(Str.ofString "default",.ref z0)]) (EP X pins σ Q) E' s:=by
 have hname:(toString "min"++toString ".loop":String)="min.loop":=by decide
 obtain⟨its,rs,pl,hz⟩:=I.list hl
 refine kmk_tree PySem.F.kind_min PySem.F.plain_min PySem.F.entry_min (vg _ _ _) ?_
 show wpAny _ X.A.in1 (Builtin.Builtins.bindParams "min" ["key","default"] 0 ⟨[],[(Str.ofString "key",.builtin "len"),(Str.ofString "default",.ref z0)]⟩ >>= _) _ _ s
 refine wpAny_bind (wpAny_of_eq (show Builtin.Builtins.bindParams "min" ["key","default"] 0 ⟨[],[(Str.ofString "key",.builtin "len"),(Str.ofString "default",.ref z0)]⟩=pure [some (.builtin "len"),some (.ref z0)] from rfl) ?_)
 refine wpAny_bind (wpAny_pure ?_)
 refine wpAny_bind (wpAny_pyIter_list pl.isList ?_)
 refine wpAny_bind (wpAny_newList ?_ (Nat.zero_le _))
 rw[hname]
 generalize hI1:s.heap.push {cls:=.type "list_iterator",data:=.fields #[.ref l,.int 0 0]}=h1
 have z1:h1.objs.size=s.heap.objs.size+1:=by rw[← hI1];exact size_push' ..
 have k1:∀ b o,s.heap.get? b=some o->h1.get? b=some o:=fun b o e=>by rw[← hI1];exact Heap.get?_push_of_some _ e
 have g1:h1.get? s.heap.objs.size=some {cls:=.type "list_iterator",data:=.fields #[.ref l,.int 0 0]}:=by rw[← hI1];exact Heap.get?_push_size _ rfl
 have hSi:h1.objs.size≠s.heap.objs.size:=by omega
 have fI:∀ H',H' s.heap.objs.size=none->b_ X pins H' s.heap.objs.size:=fun H' hn=>I.fpOk (Nat.le_refl _) hn
 have fS:∀ H',H' h1.objs.size=none->b_ X pins H' h1.objs.size:=fun H' hn=>I.fpOk (by omega) hn
 have nI:H s.heap.objs.size=none:=I.hok.fresh (Nat.le_refl _)
 have nS:H h1.objs.size=none:=I.hok.fresh (by omega)
 have gS:(h1.push {cls:=.type "list",data:=.seq ([]:List Value).toArray}).get? h1.objs.size=some (seqObj "list" #[] 0):=Heap.get?_push_size _ rfl
 have gI:(h1.push {cls:=.type "list",data:=.seq ([]:List Value).toArray}).get? s.heap.objs.size=some {cls:=.type "list_iterator",data:=.fields #[.ref l,.int 0 0]}:=Heap.get?_push_of_some _ g1
 have I0:Inv X (pins++[(h1.objs.size,seqObj "list" #[] 0),(s.heap.objs.size,{cls:=.type "list_iterator",data:=.fields #[.ref l,.int 0 0]})]) σ H {s with heap:=h1.push {cls:=.type "list",data:=.seq ([]:List Value).toArray}}:=by
  have J:Inv X pins σ H {s with heap:=h1.push {cls:=.type "list",data:=.seq ([]:List Value).toArray}}:=I.kept (t':=s.toks) fun b o e=>Heap.get?_push_of_some _ (k1 b o e)
  refine J.pins_of fun p hp=>?_
  rcases List.mem_append.mp hp with hp | hp
  ·exact J.pin p (List.mem_append_right _ hp)
  ·rcases List.mem_cons.mp hp with rfl | hp
   ·obtain⟨f0,f1,f2,_⟩:=fS H nS
    exact⟨gS,f0,f1,f2,o5⟩
   ·obtain rfl:p=_:=List.mem_singleton.mp hp
    obtain⟨f0,f1,f2,_⟩:=fI H nI
    exact⟨gI,f0,f1,f2,fun v z=>by cases z⟩
 refine wpAny_pure ⟨plainId_quiet PySem.F.plain_min_loop _,?_⟩
 obtain⟨its0,rs0,pl0,hz0⟩:=I0.list hl
 have hlen:=rs0.length
 have hit:(h1.push {cls:=.type "list",data:=.seq ([]:List Value).toArray}).IsListIter s.heap.objs.size l 0:=⟨_,gI,rfl,rfl⟩
 refine codeAny_builtin PySem.F.entry_min_loop ?_
 rw[Around.under_plainId PySem.F.plain_min_loop _]
 show wpAny _ X.A.in1 (seqItems? (.ref _) >>= _) _ _ _
 refine wpAny_bind (wpAny_seqItems gS rfl ?_)
 show wpAny _ X.A.in1 (tryCatch (pyNext (.ref s.heap.objs.size)) _ >>= _) _ _ _
 refine wpAny_bind (wpAny_tryCatch (wpAny_pyNext_list_end (A:=X.A.in1) hh hit pl0.isList (by cases rs0;rfl) fun h' eb=>?_))
 have I1:=I0.swap (pl':=[]) (t':=s.toks) (fI H nI) (fun b o hb e=>eb b o hb e) fun p hp=>by cases hp
 rw[List.append_nil] at I1
 refine wpAny_bind (wpAny_rule ?_)
 exact wpAny_pure ⟨.ref z0,H,I1,rfl,q⟩
theorem HE {p q kp lp dp pos:Pos}{a:Expr}{fa:aa->Option PyData}(hh:X.A.handled=none)(hg:Gl X "min")(hm:X.mg "min"=none)(hg':Gl X "len")(hm':X.mg "len"=none)(ha:PR X O a fa)(hv:bootBuiltins "min"=some (.builtin "min"):=by decide +kernel)
  (he:starEach [a] X.env=(false,eval a X.env)::starEach [] X.env:=by rfl)
  (he':backTo pos (starEach [a] X.env)=(false,eval a X.env)::backTo pos (starEach [] X.env):=by rfl)
  (hpl:(backTo pos (starEach [a] X.env)).any (·.1)=false:=by rfl)
  (hkl:(backToKw pos (keywordEach [⟨some "key",.Name "len" q,kp⟩,⟨some "default",.List [] lp,dp⟩] X.env)).all (·.1.isSome)=true:=by rfl)
  (hkn:(backToKw pos (keywordEach [⟨some "key",.Name "len" q,kp⟩,⟨some "default",.List [] lp,dp⟩] X.env)).any (·.1.isNone)=false:=by rfl) :
  PR X O (.Call (.Name "min" p) [a] [⟨some "key",.Name "len" q,kp⟩,⟨some "default",.List [] lp,dp⟩] pos) (fun ρ=>(fa ρ).bind l4):=by
 intro pins s σ H Q I ⟨hid,H0,ρ,ow,r,E,hf,q⟩
 obtain⟨d,h1,h2⟩:=bind_some hf
 refine wpAny_Call_Name_kw (iX I hg hm hv ?_ (by decide) (by decide))
 refine callWith_kw ?_ he' hpl hkl hkn
 have A1:=(pa_cons ha pa_nil he) pos pins s σ H (fun vs H1=>∃ v,vs=[v]∧aj H H1∧az X.K (ah H1 hid) v d) I ⟨hid,H0,ρ,ow,d,E,h1,fun v H1 s1 D1=>⟨v,rfl,s1,D1⟩⟩
 refine aI A1 fun us s1 zpat=>?_
 obtain⟨vs,H1,I1,rr,v,e,sm1,D1⟩:=zpat
 subst e
 obtain⟨u,zq1,ru⟩:=vals1 rr
 subst zq1
 refine kws_cons (iX I1 hg' hm' dC ?_ (by decide) (by decide))
 refine kws_cons (aI ((fV (pos:=lp) (bE (X:=X) (O:=O))) pins s1 σ H1 (fun v H2=>∃ z,v=.ref z∧aj H1 H2∧H1 z=none∧H2 z=some (.lst [])) I1 ⟨hid,H0,ρ,ow,[],E.mono sm1,rfl,fun l vs H2 s2 n2 q2 D2=>?_⟩) fun uz s2 ⟨vz,H2,I2,rz,z,e,sm2,nz,qz⟩=>kws_nil ?_)
 ·cases D2
  exact⟨l,rfl,s2,n2,q2⟩
 subst e
 obtain rfl:uz=Value.ref z:=rz
 have hz:¬ hid z:=fun hb=>E.ish z hb (by
  cases hH:H z with
  | none=>rfl
  | some o=>rw[sm1 _ _ hH] at nz;cases nz)
 cases d with
 | list ds=>
  obtain⟨l,xs,rfl,q1,D2⟩:=df D1
  obtain rfl:u=Value.ref l:=ru
  have D3:=D2.mono (aY sm2 hid)
  have q3:aN X.K H2 l xs:=sm2.seq ((bA _ _).seq q1)
  cases ds with
  | nil=>
   cases D2
   obtain rfl:=Option.some.inj h2
   refine BN (X:=X) hh I2 q3 (q _ _ (sm1.trans sm2) (.lst (vs:=[]) (aN.of ?_) .nil))
   rw[bb hz]
   exact qz
  | cons d0 ds=>
   refine BM (X:=X) (hid:=hid) (F:=iY) hh I2 (fun pins' H3 s3 v' u' d' k' J sm3 rv' D' hk'=>?_) q3 D3 h2 fun v' H3 sm3 D'=>q v' H3 ((sm1.trans sm2).trans sm3) D'
   obtain⟨r',hr1,hr2⟩:=bind_some hk'
   have e2:=h_ hr2
   subst e2
   cases d' with
   | list es=>
    cases hr1
    obtain⟨b,ws,rfl,qb,Db⟩:=df D'
    obtain rfl:u'=Value.ref b:=rv'
    obtain⟨its,rs,pl,hz⟩:=J.list ((bA _ _).seq qb)
    have hlen:=rs.length
    have hlen2:=Db.length
    have hs63:sizeLine<2 ^ 63:=by decide
    exact Calls.call_len_list pl.isList (by simp only[List.size_toArray];omega) ⟨.int es.length,H3,J.tok _,⟨_,by simp only[List.size_toArray];rw[← hlen,hlen2]⟩,aj.refl _,rfl⟩
   | _=>exact L2.aQ hr1
 | _=>exact L2.aQ h2
end
end L2
namespace L2
open PySem PySem.Spec PyProof.Rows PySem.W
def ky (key:Nat->Int)(p:Array Nat)(i:Nat):Int:=key (p.getD i 0)
def m_ (key:Nat->Int)(p:Array Nat)(k:Nat):Prop:=∀ i j,i≤j->j<k->ky key p i≤ky key p j
def ji (key:Nat->Int)(p:Array Nat)(k:Nat):Prop:=∀ i j,i≤j->j<k->ky key p j≤ky key p i
section
variable {key:Nat->Int}{p:Array Nat}
abbrev cK (key:Nat->Int):Nat->Nat->Bool:=fun i j=>decide (key i<key j)
theorem m_.snoc {n:Nat}(h1:1≤n)(h:m_ key p n)(hl:¬ ky key p n<ky key p (n - 1)):m_ key p (n+1):=fun i j hij hj=>by
 by_cases hjn:j<n
 ·exact h i j hij hjn
 ·have e:j=n:=by omega
  subst e
  by_cases hi:i=j
  ·rw[hi];exact Int.le_refl _
  ·have:=h i (j - 1) (by omega) (by omega);omega
theorem ji.snoc {n:Nat}(h1:1≤n)(h:ji key p n)(hl:ky key p n≤ky key p (n - 1)):ji key p (n+1):=fun i j hij hj=>by
 by_cases hjn:j<n
 ·exact h i j hij hjn
 ·have e:j=n:=by omega
  subst e
  by_cases hi:i=j
  ·rw[hi];exact Int.le_refl _
  ·have:=h i (j - 1) (by omega) (by omega);omega
theorem ji.congr {q:Array Nat}{n:Nat}(h:ji key p n)(e:∀ k,ky key q k=ky key p k):ji key q n:=fun i j hij hj=>by rw[e,e];exact h i j hij hj
structure KA (key:Nat->Int)(p:Array Nat)(n f:Nat)(r:Array Nat×Nat×Nat):Prop where
 perm:r.1.Perm p
 lo:n≤r.2.1
 hi:r.2.1≤n+f
 ni:ji key r.1 r.2.1
 q:r.2.2+1≤r.2.1
 eq:∀ i,r.2.1 - (r.2.2+1)≤i->i<r.2.1->ky key r.1 i=ky key r.1 (r.2.1 - 1)
structure Kz (key:Nat->Int)(p:Array Nat)(nrem:Nat)(r:Nat×Array Nat):Prop where
 perm:r.2.Perm p
 lo:1≤r.1
 hi:r.1≤nrem
 so:m_ key r.2 r.1
end
end L2
namespace L2
open PySem PySem.Spec PyProof.Rows PySem.W
variable [Reg]
def jN {α:Type}(n:Nat)(Q:α->Prop):KasT α->Prop
 | .ret a=>Q a
 | .ask i j k=>i<n∧j<n∧∀ b,jN n Q (k b)
theorem jN.bind {α β:Type}{n:Nat}{Q:α->Prop}{R:β->Prop}{f:α->KasT β}(hf:∀ a,Q a->jN n R (f a)):∀ t:KasT α,jN n Q t->jN n R (t.bind f)
 | .ret a,h=>hf a h
 | .ask i j k,h=>⟨h.1,h.2.1,fun b=>jN.bind hf (k b) (h.2.2 b)⟩
structure iw (n:Nat)(p:Array Nat):Prop where
 pos:0<n
 all:∀ x∈p.toList,x<n
theorem iw.at {n:Nat}{p:Array Nat}(h:iw n p)(i:Nat):p.getD i 0<n:=by
 rw[Array.getD_eq_getD_getElem?]
 cases e:p[i]? with
 | none=>exact h.pos
 | some x=>
  refine h.all x ?_
  have:=Array.getElem?_toList (xs:=p) (i:=i)
  rw[e] at this
  exact List.mem_of_getElem? this
theorem iw.perm {n:Nat}{p q:Array Nat}(h:iw n p)(hp:q.Perm p):iw n q:=⟨h.pos,fun x hx=>h.all x ((Array.perm_iff_toList_perm.mp hp).mem_iff.mp hx)⟩
theorem iw.rev {n:Nat}{p:Array Nat}(h:iw n p)(i j:Nat):iw n (kas_rev p i j):=h.perm (mirror_perm _ _ _ _)
section
variable {X:Cx}{pins:List (Addr×Obj)}{σ:St}{H Hb:Hp}{s:Shared}{A:Around}{E:Value->Shared->Prop}{a kS:Addr}{keys:Array Value}{e e1:Nat}{P:PySem.Fin->Shared->Prop}{vs:List Value}{kz:List Int}
end
section
variable {X:Cx}{pins:List (Addr×Obj)}{σ:St}{H:Hp}{s:Shared}{E':Value->Shared->Prop}{vs:List Value}{kz:List Int}{xs:List V}{g:Addr}{Q:VK}
end
section
variable {X:Cx}{O:Ow}{pos p:Pos}
end
end L2
namespace L2
variable [Reg]
def dZ (xs:Array Nat):Prop:=xs.toList.Pairwise (·<·)
theorem dZ.lt {xs:Array Nat}(h:dZ xs){i j a b:Nat}(hij:i<j)(h1:xs[i]?=some a)(h2:xs[j]?=some b):a<b:=by
 rw[← Array.getElem?_toList] at h1 h2
 obtain⟨l1,e1⟩:=List.getElem?_eq_some_iff.mp h1
 obtain⟨l2,e2⟩:=List.getElem?_eq_some_iff.mp h2
 have:=List.pairwise_iff_getElem.mp h i j l1 l2 hij
 omega
theorem dZ.le {xs:Array Nat}(h:dZ xs){i j a b:Nat}(hij:i≤j)(h1:xs[i]?=some a)(h2:xs[j]?=some b):a≤b:=by
 rcases Nat.lt_or_ge i j with q | q
 ·exact Nat.le_of_lt (h.lt q h1 h2)
 ·have:i=j:=by omega
  subst this
  rw[h1] at h2
  obtain rfl:=Option.some.inj h2
  exact Nat.le_refl _
def uo (xs:Array Nat)(j p:Nat):Prop:=p≤xs.size∧(∀ i a,i<p->xs[i]?=some a->a<j)∧∀ i a,p≤i->xs[i]?=some a->j≤a
theorem qK {xs:Array Nat}(h:dZ xs)(j:Nat):∀ (fuel lo hi:Nat),lo≤hi->hi≤xs.size->hi - lo≤fuel->(∀ i a,i<lo->xs[i]?=some a->a<j)->(∀ i a,hi≤i->xs[i]?=some a->j≤a)->uo xs j (SetTable.below.go xs j fuel lo hi)
 | 0,lo,hi,h1,h2,h3,h4,h5=>by
  have:lo=hi:=by omega
  subst this
  exact⟨h2,h4,h5⟩
 | fuel+1,lo,hi,h1,h2,h3,h4,h5=>by
  rw[SetTable.below.go]
  by_cases hlt:lo<hi
  ·rw[if_pos hlt]
   have hm:(lo+hi) / 2<xs.size:=by omega
   have hg:xs[(lo+hi) / 2]?=some xs[(lo+hi) / 2]:=Array.getElem?_eq_getElem hm
   have hgd:xs.getD ((lo+hi) / 2) j=xs[(lo+hi) / 2]:=by simp[hm]
   dsimp only
   rw[hgd]
   by_cases hc:xs[(lo+hi) / 2]<j
   ·rw[if_pos hc]
    refine qK h j fuel _ hi (by omega) h2 (by omega) (fun i a hi' e=>?_) h5
    have:=h.le (show i≤(lo+hi) / 2 by omega) e hg
    omega
   ·rw[if_neg hc]
    refine qK h j fuel lo _ (by omega) (by omega) (by omega) h4 (fun i a hi' e=>?_)
    have:=h.le hi' hg e
    omega
  ·rw[if_neg hlt]
   have:lo=hi:=by omega
   subst this
   exact⟨h2,h4,h5⟩
theorem lB {xs:Array Nat}(h:dZ xs)(j:Nat):uo xs j (SetTable.below xs j):=
 qK h j xs.size 0 xs.size (Nat.zero_le _) (Nat.le_refl _) (by omega) (fun i a hi=>absurd hi (Nat.not_lt_zero _)) fun i a hi e=>by
  have:=(Array.getElem?_eq_some_iff.mp e).1
  omega
theorem yl {xs:Array Nat}(h:dZ xs){j:Nat}(hn:(xs[SetTable.below xs j]?==some j)=false):∀ i:Nat,xs[i]?≠some j:=fun i e=>by
 obtain⟨c1,c2,c3⟩:=lB h j
 rcases Nat.lt_or_ge i (SetTable.below xs j) with q | q
 ·have:=c2 i j q e
  omega
 ·have hi:=(Array.getElem?_eq_some_iff.mp e).1
  have hb:SetTable.below xs j<xs.size:=by omega
  have hg:xs[SetTable.below xs j]?=some xs[SetTable.below xs j]:=Array.getElem?_eq_getElem hb
  have h1:=c3 _ _ (Nat.le_refl _) hg
  have h2:=h.le q hg e
  have:xs[SetTable.below xs j]=j:=by omega
  rw[hg,this] at hn
  simp at hn
theorem Hn {xs:Array Nat}(h:dZ xs){j:Nat}(hn:∀ i:Nat,xs[i]?≠some j):dZ (SetTable.insertAt xs (SetTable.below xs j) j):=by
 obtain⟨c1,c2,c3⟩:=lB h j
 unfold dZ
 rw[SetTable.toList_insertAt,List.pairwise_append,List.pairwise_cons]
 have inT:∀ a∈xs.toList.take (SetTable.below xs j),a<j:=fun a ha=>by
  obtain⟨i,hi,e⟩:=List.getElem_of_mem ha
  rw[List.getElem_take] at e
  rw[List.length_take] at hi
  refine c2 i a (by omega) ?_
  rw[← Array.getElem?_toList,← e]
  exact List.getElem?_eq_getElem (by omega)
 have inD:∀ a∈xs.toList.drop (SetTable.below xs j),j<a:=fun a ha=>by
  obtain⟨i,hi,e⟩:=List.getElem_of_mem ha
  rw[List.getElem_drop] at e
  rw[List.length_drop] at hi
  have g:xs[SetTable.below xs j+i]?=some a:=by
   rw[← Array.getElem?_toList,← e]
   exact List.getElem?_eq_getElem (by omega)
  have h1:=c3 _ a (by omega) g
  have h2:a≠j:=fun z=>hn _ (by rw[g,z])
  omega
 refine⟨List.Pairwise.sublist (List.take_sublist _ _) h,⟨inD,List.Pairwise.sublist (List.drop_sublist _ _) h⟩,fun a ha b hb=>?_⟩
 have h1:=inT a ha
 rcases List.mem_cons.mp hb with rfl | hb
 ·exact h1
 ·have:=inD b hb
  omega
structure bY (b:Bool)(t:SetTable):Prop where
 led:t.led=b
 rise:dZ t.place
 nod:t.dummies=#[]
theorem HJ (n:Nat):dZ (Array.range n):=by
 unfold dZ
 rw[Array.toList_range]
 exact List.pairwise_lt_range
theorem bY.stand {b:Bool}{t:SetTable}(h:bY b t)(n:Nat):bY b (t.standIn n):=⟨h.led,HJ n,rfl⟩
theorem bY.or {b:Bool}{t:SetTable}(h:bY b t)(n:Nat):bY b (t.orStandIn n):=by
 unfold SetTable.orStandIn
 split
 ·exact h
 ·exact h.stand n
theorem has_none (j:Nat):SetTable.has #[] j=false:=by simp[SetTable.has]
theorem yT {b:Bool}{t:SetTable}(h:bY b t)(f:Nat->Int)(x:Int):∀ (fuel:Nat) (p:SetTable.Probe) (j:Nat) (d:Option Nat),p.dummy=none->SetTable.probe.go t f x fuel p=some (.empty j d)->d=none∧t.slot j=.empty
 | 0,p,j,d,_,e=>by cases e
 | fuel+1,p,j,d,hp,e=>by
  rw[SetTable.probe.go] at e
  cases hs:t.slot p.j with
  | empty=>
   rw[hs] at e
   cases e
   exact⟨hp,hs⟩
  | dummy=>
   exfalso
   unfold SetTable.slot at hs
   rw[h.nod,has_none] at hs
   dsimp only at hs
   split at hs
   ·cases hs
   ·simp at hs
  | live i=>
   rw[hs] at e
   dsimp only at e
   split at e
   ·cases e
   ·refine yT h f x fuel _ j d ?_ e
    unfold SetTable.advance
    split
    ·exact hp
    ·exact hp
theorem bY.put {b:Bool}{t:SetTable}(h:bY b t){j:Nat}(hs:t.slot j=.empty):bY b (t.put j).1:=by
 have hn:(t.place[SetTable.below t.place j]?==some j)=false:=by
  unfold SetTable.slot at hs
  dsimp only at hs
  cases q:(t.place[SetTable.below t.place j]?==some j) with
  | false=>rfl
  | true=>rw[q] at hs;simp at hs
 refine⟨h.led,Hn h.rise (yl h.rise hn),?_⟩
 show (if SetTable.has t.dummies j then _ else t.dummies)=#[]
 rw[h.nod,has_none]
 rfl
theorem Et {b:Bool}{t:SetTable}(h:bY b t)(es:Array (Int×Value))(x:Int)(v:Value):bY b (layNew t es x v).2.1:=by
 unfold layNew
 cases hf:t.freeSlot x with
 | none=>exact h.stand _
 | some q=>
  obtain⟨slot,wd⟩:=q
  unfold SetTable.freeSlot at hf
  split at hf
  ·rename_i j d hp
   cases hf
   obtain⟨rfl,hs⟩:=yT h _ _ _ _ j d rfl hp
   exact (h.put hs).or _
  ·exact L2.aQ hf
theorem xx {α:Type}(f:Nat->Option α):∀ (l:List Nat),l.Pairwise (·<·)->((l.filterMap fun j=>(f j).map (j,·)).map (·.1)).Pairwise (·<·)
 | [],_=>.nil
 | j::r,h=>by
  obtain⟨h1,h2⟩:=List.pairwise_cons.mp h
  have ih:=xx f r h2
  cases hj:f j with
  | none=>
   rw[List.filterMap_cons_none (by rw[hj];rfl)]
   exact ih
  | some a=>
   rw[List.filterMap_cons_some (b:=(j,a)) (by rw[hj];rfl),List.map_cons]
   refine .cons (fun z hz=>?_) ih
   obtain⟨q,hq,rfl⟩:=List.mem_map.mp hz
   obtain⟨i,hi,e⟩:=List.mem_filterMap.mp hq
   cases hfi:f i with
   | none=>rw[hfi] at e;cases e
   | some c=>
    rw[hfi] at e
    obtain rfl:=Option.some.inj e
    exact h1 i hi
theorem HV {b:Bool}{t:SetTable}(h:bY b t)(es:Array (Int×Value))(n:Nat):bY b (relayAll t es n).2.1:=by
 unfold relayAll
 cases hr:t.relaid (es.map (·.1)) n with
 | none=>exact h.stand _
 | some q=>
  obtain⟨t',order⟩:=q
  dsimp only
  split
  ·unfold SetTable.relaid SetTable.laid at hr
   cases ho:SetTable.layClean (SetTable.sizeAbove n - 1) (es.map (·.1)) with
   | none=>rw[ho] at hr;cases hr
   | some owner=>
    rw[ho] at hr
    cases hr
    refine⟨h.led,?_,rfl⟩
    unfold dZ
    exact xx (fun j=>owner.getD j none) _ List.pairwise_lt_range
  ·exact h.stand _
theorem bY.plain {b:Bool}{t:SetTable}(h:bY b t):bY b {t with plain:=false}:=⟨h.led,h.rise,h.nod⟩
def fB:Value->Int
 | .int k _=>k
 | _=>0
def cF (P:Program)(w:World)(h:Heap)(a:Addr)(b:Bool)(L:List Int):Prop:=
 ∃ o es ep t,h.get? a=some o∧o.ExactSet∧o.data=.set es ep t∧ElemsOf (intKind P w) es.toList∧(es.toList.map fun e=>fB e.2).Perm L∧es.size<scanBound∧t.fits es.size=true∧bY b t
def fA (L:List Int)(k:Int):List Int:=if k∈L then L else L++[k]
section
variable {P:Program}{w:World}{A:Around}{E:Value->Shared->Prop}{s:Shared}{a:Addr}{b:Bool}{L:List Int}
theorem nU {es:List (Int×Value)}(h:ElemsOf (intKind P w) es){e:Int×Value}(he:e∈es):∃ k t,e.2=.int k t∧e.1=hashInt k:=by
 obtain⟨⟨k,h1,h2⟩,_⟩:=h e he
 obtain⟨t,h3⟩:=Value.isInt_shape h1
 exact⟨k,t,h3,h2⟩
theorem wY (k k':Int)(t:Tok):(intKind P w).is k (.int k' t)=true↔k'=k:=by
 show Value.isInt k (.int k' t)=true↔_
 simp[Value.isInt]
theorem cF.keep {h h':Heap}(S:cF P w h a b L)(k:∀ o,h.get? a=some o->h'.get? a=some o):cF P w h' a b L:=by
 obtain⟨o,es,ep,t,h1,r⟩:=S
 exact⟨o,es,ep,t,k o h1,r⟩
theorem cF.stored {h:Heap}{o:Obj}{es es':Array (Int×Value)}{ep:Nat}{t t':SetTable}(ho:h.get? a=some o)(hx:o.ExactSet)(hd:o.data=.set es ep t)
  (h1:ElemsOf (intKind P w) es'.toList) (h2:(es'.toList.map fun e=>fB e.2).Perm L) (h3:es'.size<scanBound) (h4:t'.fits es'.size=true) (h5:bY b t') :
  (h.update a (Obj.putSet es' t')).get? a=some {o with data:=.set es' (ep+1) t' }∧cF P w (h.update a (Obj.putSet es' t')) a b L:=by
 have g:(h.update a (Obj.putSet es' t')).get? a=some {o with data:=.set es' (ep+1) t' }:=by
  have q:=Heap.get?_update_self (Obj.putSet es' t') ho (by rw[putSet_of es' t' hd];rfl)
  rwa [putSet_of es' t' hd] at q
 exact⟨g,_,es',ep+1,t',g,hx,rfl,h1,h2,h3,h4,h5⟩
theorem uZ {g:Bool->Sem Unit}(hg:∀ (c:Bool) (s1:Shared) (Q':Unit->Shared->Prop),Q' () s1->wpAny (model P w) A (g c) Q' E s1){o:Obj}{es es1:Array (Int×Value)}{ep:Nat}{t t2:SetTable}{wd:Bool}{R:Option Bool->Shared->Prop}
  (ho:s.heap.get? a=some o) (hx:o.ExactSet) (hd:o.data=.set es ep t) (h1:ElemsOf (intKind P w) es1.toList) (h2:(es1.toList.map fun e=>fB e.2).Perm L) (h3:es1.size<scanBound) (h4:t2.fits es1.size=true) (h5:bY b t2)
  (k:∀ h',Heap.SameBut a s.heap h'->cF P w h' a b L->R (some true) {s with heap:=h' }) :
  wpAny (model P w) A (do
   storeSet a es1 t2
   if (!wd&&t2.tooFull)=true then do
     g (relayAll t2 es1 (SetTable.grown es1.size)).2.2
     storeSet a (relayAll t2 es1 (SetTable.grown es1.size)).1 (relayAll t2 es1 (SetTable.grown es1.size)).2.1
     pure (some true)
    else pure (some true)) R E s:=by
 refine wpAny_bind (wpAny_storeSet_of ho hd ?_ (fits_of_scanBound h3))
 obtain⟨g1,S1⟩:=cF.stored (P:=P) (w:=w) ho hx hd h1 h2 h3 h4 h5
 have b1:=Heap.SameBut.update s.heap a (Obj.putSet es1 t2)
 by_cases hc:(!wd&&t2.tooFull)=true
 ·rw[if_pos hc]
  have q1:=relayAll_perm t2 es1 (SetTable.grown es1.size)
  have q2:=relayAll_fits t2 es1 (SetTable.grown es1.size)
  have q3:=HV h5 es1 (SetTable.grown es1.size)
  have q4:(relayAll t2 es1 (SetTable.grown es1.size)).1.size=es1.size:=by
   have:=q1.length_eq
   simpa using this
  generalize relayAll t2 es1 (SetTable.grown es1.size)=Y at q1 q2 q3 q4 ⊢
  refine wpAny_bind (hg _ _ _ ?_)
  refine wpAny_bind (wpAny_storeSet_of g1 rfl ?_ (fits_of_scanBound (by rw[q4];exact h3)))
  obtain⟨_,S2⟩:=cF.stored (P:=P) (w:=w) (L:=L) (t':=Y.2.1) (es':=Y.1) g1 hx rfl (h1.perm q1) ((q1.map _).trans h2) (by rw[q4];exact h3) q2 q3
  exact wpAny_pure (k _ (b1.trans (Heap.SameBut.update _ a _)) S2)
 ·rw[if_neg hc]
  exact wpAny_pure (k _ b1 S1)
theorem Ba {k:Int}{tk:Tok}{Q:Bool->Shared->Prop}(S:cF P w s.heap a b L)(hroom:L.length+1<scanBound)
  (h:∀ r h',Heap.SameBut a s.heap h'->cF P w h' a b (fA L k)->Q r {s with heap:=h' }):wpAny (model P w) A (setAddHashed a (.int k tk) (hashInt k)) Q E s:=by
 obtain⟨o,es,ep,t,ho,hx,hd,h1,h2,h3,h4,h5⟩:=id S
 have hkey:(intKind P w).is k (.int k tk)=true:=intKind_is P w k tk
 have hsz:es.size=L.length:=by
  have:=h2.length_eq
  simpa using this
 unfold setAddHashed setAddHashedIn
 refine wpAny_holding (wpAny_bind (wpAny_setState_of ho hd h4 ?_))
 dsimp only
 rw[byScan_of (knd:=intKind P w) rfl h3 h1,if_pos rfl]
 unfold setAddByScan
 refine wpAny_bind (wpAny_bind (wpAny_rule (wpAny_bind (wpAny_setScan_of (knd:=intKind P w) hkey ho hd h4 h1 ?_))))
 have gw:∀ (c:Bool) (s1:Shared) (Q':Unit->Shared->Prop),Q' () s1->wpAny (model P w) A (match c with | true=>rule "set.scan.the-table-gave-way" | false=>pure ()) Q' E s1:=fun c s1 Q' q=>by
  cases c with
  | true=>exact wpAny_rule q
  | false=>exact wpAny_pure q
 cases hr:List.findIdx? (fun e=>(intKind P w).is k e.2) es.toList with
 | some j=>
  obtain⟨hj,hp,_⟩:=List.findIdx?_eq_some_iff_getElem.mp hr
  obtain⟨k',t',e1,_⟩:=nU h1 (List.getElem_mem hj)
  rw[e1] at hp
  have hk':=(wY k k' t').mp hp
  have hin:k∈L:=h2.mem_iff.mp (List.mem_map.mpr ⟨es.toList[j],List.getElem_mem hj,by rw[e1];exact hk'⟩)
  refine wpAny_pure (wpAny_pure ?_)
  have:=h false s.heap (Heap.SameBut.refl a s.heap) (by unfold fA;rw[if_pos hin];exact S)
  cases s
  exact this
 | none=>
  have hout:k∉L:=fun z=>by
   obtain⟨e,he,hk'⟩:=List.mem_map.mp (h2.mem_iff.mpr z)
   obtain⟨k',t',e1,_⟩:=nU h1 he
   rw[e1] at hk'
   have:=List.findIdx?_eq_none_iff.mp hr e he
   rw[e1,(wY k k' t').mpr hk'] at this
   exact L2.Fd this
  dsimp only
  have q1:=layNew_perm t es (hashInt k) (.int k tk)
  have q2:=layNew_fits t es (hashInt k) (.int k tk)
  have q3:=Et h5 es (hashInt k) (.int k tk)
  show wpAny _ _ (match layNew t es (hashInt k) (.int k tk) with | (es,t,wd,gave)=>_) _ _ s
  generalize layNew t es (hashInt k) (.int k tk)=Y at q1 q2 q3 ⊢
  obtain⟨es1,t1,wd,gave⟩:=Y
  dsimp only at q1 q2 q3 ⊢
  rw[Array.toList_push] at q1
  have g1:ElemsOf (intKind P w) es1.toList:=(ElemsOf.push (knd:=intKind P w) h1 hkey rfl).perm q1
  have g2:(es1.toList.map fun e=>fB e.2).Perm (fA L k):=by
   unfold fA
   rw[if_neg hout]
   refine (q1.map _).trans ?_
   rw[List.map_append]
   exact h2.append_right _
  have g3:es1.size<scanBound:=by
   have:=q1.length_eq
   rw[List.length_append] at this
   simp at this
   omega
  refine wpAny_bind (gw _ _ _ ?_)
  have fin:∀ h',Heap.SameBut a s.heap h'->cF P w h' a b (fA L k)->wpAny (model P w) A (pure true) Q E {s with heap:=h' }:=fun h' sb S'=>wpAny_pure (h true h' sb S')
  by_cases hpl:t1.plain=true
  ·rw[if_pos hpl]
   refine wpAny_bind ?_
   rw[hashByValue_scannable 8 rfl]
   refine wpAny_pure ?_
   exact uZ gw ho hx hd g1 g2 g3 (by split;exact q2;exact SetTable.fits_plain_off q2) (by split;exact q3;exact q3.plain) fin
  ·rw[if_neg hpl]
   refine wpAny_bind (wpAny_pure ?_)
   rw[if_pos rfl]
   exact uZ gw ho hx hd g1 g2 g3 q2 q3 fin
end
def dQ (val:Nat->Int):Nat->List Int
 | 0=>[]
 | i+1=>fA (dQ val i) (val i)
theorem DP (L:List Int)(k:Int):(fA L k).length≤L.length+1:=by
 unfold fA
 split
 ·omega
 ·rw[List.length_append,List.length_singleton]
  exact Nat.le_refl _
theorem oq (val:Nat->Int):∀ i,(dQ val i).length≤i
 | 0=>Nat.le_refl _
 | i+1=>Nat.le_trans (DP _ _) (Nat.succ_le_succ (oq val i))
section
variable {P:Program}{w:World}{A:Around}{R:Result->Shared->Prop}{I:Addr}{fp wr:List Addr}{G:Array GenState->Array GenState->Prop}{n:Nat}{V1:Nat->Value->Prop}{St:Nat->Shared->Prop}{b:Bool}
theorem xU (W:WalksS P w A.in1 I fp wr G n V1 St)(S:Addr)(hS:S∉fp)(val:Nat->Int)(hval:∀ i v,V1 i v->∃ t,v=.int (val i) t)(hb:n+1<scanBound):∀ (m i:Nat) (s:Shared),n - i=m->i≤n->St i s->cF P w s.heap S b (dQ val i) ->
  (∀ s',Moved (S::wr) G s s'->cF P w s'.heap S b (dQ val n)->R (.ok (.ret .none)) s')->codeAny (model P w) A (.builtin "set.update.loop" ⟨[.ref S,.ref I],[]⟩) R s
 | 0,i,s,hm,hi,st,T,k=>by
  have e:i=n:=by omega
  subst e
  refine codeAny_builtin F.entry_set_update_loop (by
   rw[Around.under_plainId F.plain_set_update_loop _]
   refine (wpAny_bind (W.done s _ _ st fun s' mv=>?_):wpAny _ A.in1 (pyNext (.ref I) >>= _) _ _ s)
   show wpAny _ A.in1 (ret Value.none) _ _ s';exact wpAny_pure (k s' (mv.mono fun x hx=>List.mem_cons_of_mem _ hx) (T.keep fun o q=>mv.heap S o (fun z=>hS (W.sub _ z)) q)))
 | m+1,i,s,hm,hi,st,T,k=>by
  have sub2:∀ x∈wr,x∈S::wr:=fun x hx=>List.mem_cons_of_mem _ hx
  refine codeAny_builtin F.entry_set_update_loop (by
   rw[Around.under_plainId F.plain_set_update_loop _]
   refine (wpAny_bind (W.item i s _ _ (by omega) st fun v s' hv st' mv=>?_):wpAny _ A.in1 (pyNext (.ref I) >>= _) _ _ s)
   obtain⟨tk,rfl⟩:=hval i v hv
   refine (wpAny_bind (wpAny_holding ?_):wpAny _ A.in1 (holding [Value.int (val i) tk] (setAdd S (.int (val i) tk)) >>= _) _ _ s')
   unfold setAdd
   refine wpAny_holding (wpAny_bind ((intKind P w).pyHash (k:=val i) (intKind_is _ _ _ _) ?_))
   have T':cF P w s'.heap S b (dQ val i):=T.keep fun o q=>mv.heap S o (fun z=>hS (W.sub _ z)) q
   have hl:=oq val i
   refine Ba (s:={s' with toks:=s'.toks+1}) T' (by omega) fun r h' sb T2=>?_
   refine wpAny_pure ⟨plainId_quiet F.plain_set_update_loop _,xU W S hS val hval hb m (i+1) _ (by omega) (by omega) (W.frame _ s' _ _ st' (Nat.le_succ _) fun x hx o q=>?_) T2 fun s'' mv' T3=>k s'' ?_ T3⟩
   ·rw[sb.2 x (fun z=>hS (z▸hx))];exact q
   ·refine Moved.trans W.gtrans ((mv.mono sub2).then_heap (Nat.le_succ _) fun x o hx q=>?_) mv'
    rw[sb.2 x (fun z=>hx (by rw[z];exact List.mem_cons_self))];exact q)
end
section
variable {P:Program}{w:World}{A:Around}{E:Value->Shared->Prop}{s:Shared}
def eN (w:World):Bool:=!(w.params.followText "set-order")
theorem E8 (x:Value){Q1:Value->Shared->Prop}(h:Q1 (.ref s.heap.objs.size) {s with heap:=s.heap.push {cls:=.type "set",dict:=none,data:=.set #[] 0 (.fresh 0 0 (eN w))}}) :
  codeAny (model P w) A (.call (.builtin "set.__new__") ⟨[.type "set",x],[]⟩) (wants Q1 E) s:=by
 refine codeAny_of_tree (wpAny_bind (wpAny_of_eq (F.newCall_set_1 x) (wpAny_pure ⟨plainId_quiet F.plain_set_new _,codeAny_builtin F.entry_set_new ?_⟩)):wpAny _ A.in1 (do checkBuiltinCall "set.__new__" ⟨[.type "set",x],[]⟩;again (.builtin "set.__new__" ⟨[.type "set",x],[]⟩)) _ _ s)
 rw[Around.under_plainId F.plain_set_new _]
 unfold Builtin.«set.__new__» Builtin.Frozenset.newClass
 have z:=sub_set_self
 obtain⟨hp,g,d,tk,os⟩:=s
 dsimp only
 wp_walk
 refine wpAny_askSetting (wpAny_pure ?_)
 dsimp only
 simp only[newObj]
 refine wpAny_bind (wpAny_alloc (wpAny_pure (wpAny_pure ?_)))
 exact h
theorem C0 (b:Bool):bY b (.fresh 0 0 b):=⟨rfl,.nil,rfl⟩
set_option maxHeartbeats 8000000 in
theorem BG {l:Addr}{items:Array Value}{ns:List Int}{Q:Value->Shared->Prop}(hh:A.handled=none)(hl:s.heap.IsList l items)(hi:IntsAre items.toList ns)(hb:items.size+1<scanBound)
  (k:∀ (h':Heap) (tk:Nat),cF P w h' s.heap.objs.size (eN w) (dQ (fun i=>ns.getD i 0) items.size)->(∀ x o,s.heap.get? x=some o->h'.get? x=some o)->Q (.ref s.heap.objs.size) {s with heap:=h',toks:=tk}) :
  wpAny (model P w) A (call (.type "set") [.ref l]) Q E s:=by
 obtain⟨c,tl,hmro⟩:=F.called_set.mro
 have hmade:=F.called_set.made
 have hsub:=F.called_set.sub
 refine wpAny_call (codeAny_of_tree ?_)
 show wpAny _ _ (callAny (.type "set") _) _ _ _
 refine wpAny_pure ⟨Code.quiet_builtin _ (by decide +kernel),codeAny_builtin F.entry_type_call ?_⟩
 rw[Around.under_plain (weight_type_call_type "set" [.ref l] []) rfl]
 have h1:=F.called_set.notType
 have h2:=F.called_set.canCreate
 have hct:=F.typeCall_set_1 (.ref l)
 repeat (any_goals (first | assumption | wp_step))
 generalize hN:({cls:=.type "set",dict:=none,data:=.set #[] 0 (.fresh 0 0 (eN w))}:Obj)=oS
 refine codeAny_mono (E8 (E:=E) (.ref l) (Q1:=fun obj s1=>obj=.ref s.heap.objs.size∧s1={s with heap:=s.heap.push oS}) (by rw[hN];exact⟨rfl,rfl⟩)) fun r s1 hr=>?_
 cases r with
 | error e=>exact hr
 | ok fl=>
  cases fl with
  | ret obj=>
   obtain⟨rfl,rfl⟩:=hr
   have gS:(s.heap.push oS).get? s.heap.objs.size=some oS:=Heap.get?_push_size _ (by rw[← hN];rfl)
   have hT:Shared.TypeIs {s with heap:=s.heap.push oS} (.ref s.heap.objs.size) "set":=⟨_,gS,by rw[← hN]⟩
   have hli:=F.called_set.init.lookup
   have hbi:=F.called_set.init.bind (.ref s.heap.objs.size)
   repeat (any_goals (first | assumption | wp_step))
   refine codeAny_mono (codeAny_call_builtin (R:=wants (fun r s2=>r=.none∧∃ h' tk,s2={s with heap:=h',toks:=tk}∧cF P w h' s.heap.objs.size (eN w) (dQ (fun i=>ns.getD i 0) items.size)∧∀ x o,s.heap.get? x=some o->h'.get? x=some o) E) F.called_set.init.plain F.entry_set_init (check_set_init_1 hT ?_)) fun r2 s2 hr2=>?_
   ·obtain⟨⟨oc,od,odt,osl⟩,hol,hcl,nl,hdl⟩:=id hl
    simp only at hcl hdl
    subst hcl hdl
    have hol2:(s.heap.push oS).get? l=some {cls:=.type "list",dict:=od,data:=.seq items nl,slots:=osl}:=Heap.get?_push_of_some _ hol
    have a1:=F.sub_list_set
    have a2:=F.sub_list_frozenset
    have a3:(Value.type "list"==Value.type "dict")=false:=by decide
    have hl1:(s.heap.push oS).IsList l items:=⟨_,hol2,rfl,nl,rfl⟩
    subst hN
    unfold Builtin.«set.__init__» noKeywords Builtin.Frozenset.updateFrom
    generalize hPI:pyIter=PI
    wp_walk
    subst hPI
    refine wpAny_pyIter_list hl1 (wpAny_bind (wpAny_runValue ?_))
    generalize hN:({cls:=.type "set",dict:=none,data:=.set #[] 0 (.fresh 0 0 (eN w))}:Obj)=oS at *
    have hlS:l<s.heap.objs.size:=Heap.lt_size hol
    have hh3:A.in1.in1.in1.handled=none:=by simp[hh]
    have sz:(s.heap.push oS).objs.size=s.heap.objs.size+1:=Heap.size_push ..
    have ne1:l≠(s.heap.push oS).objs.size:=by rw[sz];exact Nat.ne_of_lt (Nat.lt_succ_of_lt hlS)
    have nf:s.heap.objs.size∉[(s.heap.push oS).objs.size,l]:=by
     rw[sz]
     simp only[List.mem_cons,List.not_mem_nil,or_false,not_or]
     exact⟨Nat.ne_of_lt (Nat.lt_succ_self _),(Nat.ne_of_lt hlS).symm⟩
    have hv:∀ (i:Nat) (v:Value),items[i]?=some v->∃ t,v=.int ((fun i=>ns.getD i 0) i) t:=fun i v e=>hi.int_at i v (by rw[Array.getElem?_toList];exact e)
    have T0:cF P w ((s.heap.push oS).push {cls:=.type "list_iterator",data:=.fields #[.ref l,.int 0 0]}) s.heap.objs.size (eN w) (dQ (fun i=>ns.getD i 0) 0):=
     ⟨oS,#[],0,.fresh 0 0 (eN w),Heap.get?_push_of_some _ gS,by rw[← hN];exact⟨rfl,rfl,rfl⟩,by rw[← hN],(fun e he=>by cases he),.nil,(by show 0<scanBound;decide),rfl,C0 _⟩
    refine xU ((Walks.list hh3 _ l ne1 items).toS) s.heap.objs.size nf (fun i=>ns.getD i 0) hv hb (items.size - 0) 0 _ (by omega) (Nat.zero_le _) ⟨⟨_,Heap.get?_push_size _ rfl,rfl,rfl⟩,hl1.push _⟩ T0 fun s3 mv T3=>?_
    obtain⟨h3,g3,d3,t3,o3⟩:=s3
    have eg:g3=s.gens:=mv.gens
    have ed:d3=s.drawn:=mv.drawn
    have eo:o3=s.os:=mv.os
    subst eg ed eo
    refine wpAny_pure ?_
    show wpAny _ _ (ret Value.none) _ _ _
    refine wpAny_pure ⟨rfl,h3,t3,rfl,T3,fun x o e=>mv.heap x o ?_ (Heap.get?_push_of_some _ (Heap.get?_push_of_some _ e))⟩
    have lt:=Heap.lt_size e
    rw[sz]
    simp only[List.mem_cons,List.not_mem_nil,or_false,not_or]
    exact⟨Nat.ne_of_lt lt,Nat.ne_of_lt (Nat.lt_succ_of_lt lt)⟩
   ·cases r2 with
    | error e=>exact hr2
    | ok f2=>
     cases f2 with
     | ret r=>
      obtain⟨rfl,h',tk,rfl,T3,hk⟩:=hr2
      repeat (any_goals (first | assumption | wp_step))
      exact k _ _ T3 hk
     | _=>exact hr2.elim
  | _=>exact hr.elim
end
end L2
namespace L2
variable [Reg]
theorem f_:Slot "set_iterator" "__next__" "set_iterator.__next__":=Slot.of (owner:="set_iterator") (n:="__next__") (by rw[typeLookup_type,builtinLookup_eq_fast];kernel_rfl) (by decide +kernel) (by decide +kernel) (by decide +kernel) (.inl (by decide +kernel)) (by rw[isSubtype_type];kernel_rfl)
theorem nV:entryFor table "set_iterator.__next__"=some Builtin.«set_iterator.__next__»:=entryFor_of_tree (by kernel_rfl)
theorem yD:Manifest.owners.lookup (String.ofList ['r','o','t','a','r','e','t','i','_','t','e','s'].reverse)=some Manifest.sig_set_iterator:=by kernel_rfl
theorem nJ (a:Value):argsOk "set_iterator.__next__" ⟨[a],[]⟩:=by
 unfold argsOk
 rw[signature?_of (id:="set_iterator.__next__") (n:=['_','_','t','x','e','n','_','_']) (o:=['r','o','t','a','r','e','t','i','_','t','e','s']) (by kernel_rfl) yD]
 kernel_rfl
theorem Cw:entryFor table "set.__iter__"=some Builtin.«frozenset.__iter__»:=entryFor_alias (id':="frozenset.__iter__") (by kernel_rfl) rfl (by decide +kernel) (by kernel_rfl)
structure dn (h:Heap)(S:Addr)(es:Array (Int×Value))(ep:Nat)(t:SetTable):Prop where
 ex:∃ o,h.get? S=some o∧o.ExactSet∧o.data=.set es ep t
 fits:t.fits es.size=true
theorem dn.keep {h h':Heap}{S:Addr}{es:Array (Int×Value)}{ep:Nat}{t:SetTable}(x:dn h S es ep t)(k:∀ o,h.get? S=some o->h'.get? S=some o):dn h' S es ep t:=
 ⟨let ⟨o,h1,r⟩:=x.ex;⟨o,k o h1,r⟩,x.fits⟩
def eD (h:Heap)(I:Addr)(first:Value)(i:Nat)(S:Addr)(n ep:Nat):Prop:=∃ o,h.get? I=some o∧o.cls=.type "set_iterator"∧o.data=.fields #[first,.int i 0,.ref S,.int n 0,.int ep 0]
section
variable {P:Program}{w:World}{A:Around}{E:Value->Shared->Prop}{s:Shared}{I S:Addr}{es:Array (Int×Value)}{n ep:Nat}{t:SetTable}
theorem eD.ty {first:Value}{i:Nat}(x:eD s.heap I first i S n ep):s.TypeIs (.ref I) "set_iterator":=let ⟨o,h1,h2,_⟩:=x;⟨o,h1,h2⟩
theorem E_ {slot i next:Nat}{x:Value}{Q:Option Value->Shared->Prop}(hi:eD s.heap I (.int slot 0) i S es.size ep)(hS:dn s.heap S es ep t)(hne:I≠S)
  (hn:∀ (s1:Shared) (A1:Around) (E1:Value->Shared->Prop) (Q1:Option (Value×Nat)->Shared->Prop),dn s1.heap S es ep t->Q1 (some (x,next)) s1->wpAny (model P w) A1 (setNext S slot i ep) Q1 E1 s1)
  (hQ:∀ h',eD h' I (.int next 0) (i+1) S es.size ep->Heap.SameBut I s.heap h'->Q (some x) {s with heap:=h' }):wpAny (model P w) A (pyNext (.ref I)) Q E s:=by
 obtain⟨o,ho,hc,hd⟩:=id hi
 obtain⟨oS,hoS,hxS,hdS⟩:=hS.ex
 unfold pyNext
 refine wpAny_bind (wpAny_attempt (wpAny_callSpecial?_slot (name:=Str.ofString "__next__") hi.ty f_ (wpAny_call_entry f_ hi.ty nV ?_ (nJ _))))
 unfold Builtin.«set_iterator.__next__» slotArgs
 simp only[List.isEmpty_nil,Bool.not_true,Bool.false_eq_true,↓reduceIte,List.length_nil,bne_self_eq_false]
 refine wpAny_bind (wpAny_pure ?_)
 refine wpAny_bind (wpAny_fieldsOf ho hd ?_)
 dsimp only
 refine wpAny_bind (wpAny_setEntries_of hoS hdS hS.fits ?_)
 simp only[bne_self_eq_false,Bool.false_eq_true,↓reduceIte]
 refine wpAny_bind (hn s _ _ _ hS ?_)
 dsimp only
 refine wpAny_bind (wpAny_setField ho hd (by simp) ?_)
 have g1:=Heap.get?_update_self (Obj.mapFields (·.setIfInBounds 0 (rawInt (next:Nat)))) ho (Obj.isFreed_of_fields (Obj.data_mapFields hd _))
 have d1:=Obj.data_mapFields hd (·.setIfInBounds 0 (rawInt (next:Nat)))
 refine wpAny_bind (wpAny_setField g1 d1 (by simp) ?_)
 have g2:=Heap.get?_update_self (Obj.mapFields (·.setIfInBounds 1 (rawInt ((i:Int)+1)))) g1 (Obj.isFreed_of_fields (Obj.data_mapFields d1 _))
 refine wpAny_pure ⟨_,rfl,wpAny_pure (hQ _ ⟨_,g2,((Obj.cls_mapFields ..).trans (Obj.cls_mapFields ..)).trans hc,?_⟩ ((Heap.SameBut.update ..).trans (Heap.SameBut.update ..)))⟩
 rw[Obj.data_mapFields d1]
 simp[rawInt]
theorem zV {Q:Option Value->Shared->Prop}(hh:A.handled=none)(h:∀ h',(∀ b o,s.heap.get? b=some o->h'.get? b=some o)->Q none {s with heap:=h' }) :
  wpAny (model P w) A.in1 (newExc (.type "StopIteration") [] >>= fun e=>raiseNew e) (fun (fin:Fin) s'=>∃ v,fin=Fin.done (Flow.ret v)∧wpAny (model P w) A (pure (some v)) Q E s')
   (fun e s'=>wpAny (model P w) A (do let b ← isInstance e (.type "StopIteration");if b=true then pure none else throw e) Q E s') s:=by
 refine wpAny_bind ?_
 simp only[newExc,newTuple]
 refine wpAny_bind (wpAny_newObj_type ?_ (by size_fits))
 refine wpAny_bind (m:=firstArgMember _ _) (wpAny_of_eq (a:=Value.none) (by first | rfl | (simp only[firstArgMember];rfl)) ?_)
 refine wpAny_newObj_type ?_ (by size_fits)
 simp only[raiseNew]
 refine wpAny_bind (wpAny_handled ?_)
 rw[show A.in1.handled=none from hh]
 refine wpAny_bind (wpAny_pure (wpAny_throw ?_))
 refine wpAny_bind (wpAny_isInstance (T:="StopIteration") (b:=true) ⟨_,Heap.get?_push_size _ rfl,rfl⟩ isSubtype_stop ?_)
 exact wpAny_pure (h _ fun b o e=>Heap.get?_push_of_some _ (Heap.get?_push_of_some _ e))
theorem E9 {slot i:Nat}{Q:Option Value->Shared->Prop}(hh:A.handled=none)(hi:eD s.heap I (.int slot 0) i S es.size ep)(hS:dn s.heap S es ep t)
  (hn:∀ (s1:Shared) (A1:Around) (E1:Value->Shared->Prop) (Q1:Option (Value×Nat)->Shared->Prop),dn s1.heap S es ep t->Q1 none s1->wpAny (model P w) A1 (setNext S slot i ep) Q1 E1 s1)
  (hQ:∀ h',Heap.ExtBut I s.heap h'->Q none {s with heap:=h' }):wpAny (model P w) A (pyNext (.ref I)) Q E s:=by
 obtain⟨o,ho,hc,hd⟩:=id hi
 obtain⟨oS,hoS,hxS,hdS⟩:=hS.ex
 unfold pyNext
 refine wpAny_bind (wpAny_attempt (wpAny_callSpecial?_slot (name:=Str.ofString "__next__") hi.ty f_ (wpAny_call_entry f_ hi.ty nV ?_ (nJ _))))
 unfold Builtin.«set_iterator.__next__» slotArgs
 simp only[List.isEmpty_nil,Bool.not_true,Bool.false_eq_true,↓reduceIte,List.length_nil,bne_self_eq_false]
 refine wpAny_bind (wpAny_pure ?_)
 refine wpAny_bind (wpAny_fieldsOf ho hd ?_)
 dsimp only
 refine wpAny_bind (wpAny_setEntries_of hoS hdS hS.fits ?_)
 simp only[bne_self_eq_false,Bool.false_eq_true,↓reduceIte]
 refine wpAny_bind (hn s _ _ _ hS ?_)
 dsimp only
 refine wpAny_bind (wpAny_setField ho hd (by simp) ?_)
 exact zV (s:={s with heap:=s.heap.update I (Obj.mapFields (·.setIfInBounds 2 .none))}) hh fun h' k=>hQ h' fun b o hb e=>k b o ((Heap.SameBut.update ..).extBut b o hb e)
theorem Cu {T i place:Nat}{places:Array Value}{x:Int×Value}{tk:Tok}{oT:Obj}{nT:Nat}{Q:Option Value->Shared->Prop}(hi:eD s.heap I (.ref T) i S es.size ep)(hS:dn s.heap S es ep t)(hT:s.heap.get? T=some oT)(hTd:oT.data=.seq places nT)(hp:places[i]?=some (.int place tk))(hx:es[place]?=some x)
  (hQ:∀ h',eD h' I (.ref T) (i+1) S es.size ep->Heap.SameBut I s.heap h'->Q (some x.2) {s with heap:=h' }):wpAny (model P w) A (pyNext (.ref I)) Q E s:=by
 obtain⟨o,ho,hc,hd⟩:=id hi
 obtain⟨oS,hoS,hxS,hdS⟩:=hS.ex
 unfold pyNext
 refine wpAny_bind (wpAny_attempt (wpAny_callSpecial?_slot (name:=Str.ofString "__next__") hi.ty f_ (wpAny_call_entry f_ hi.ty nV ?_ (nJ _))))
 unfold Builtin.«set_iterator.__next__» slotArgs
 simp only[List.isEmpty_nil,Bool.not_true,Bool.false_eq_true,↓reduceIte,List.length_nil,bne_self_eq_false]
 refine wpAny_bind (wpAny_pure ?_)
 refine wpAny_bind (wpAny_fieldsOf ho hd ?_)
 dsimp only
 refine wpAny_bind (wpAny_setEntries_of hoS hdS hS.fits ?_)
 simp only[bne_self_eq_false,Bool.false_eq_true,↓reduceIte]
 refine wpAny_bind (wpAny_seqItems hT hTd ?_)
 dsimp only
 rw[show places[((i:Nat):Int).toNat]?=some (.int place tk) from hp]
 dsimp only
 refine wpAny_bind ?_
 unfold setNextDrawn
 refine wpAny_bind (wpAny_setState_of hoS hdS hS.fits ?_)
 simp only[Int.toNat_natCast,bne_self_eq_false,Bool.false_eq_true,↓reduceIte,hx]
 refine wpAny_pure ?_
 refine wpAny_bind (wpAny_setField ho hd (by simp) ?_)
 have g1:=Heap.get?_update_self (Obj.mapFields (·.setIfInBounds 1 (rawInt ((i:Int)+1)))) ho (Obj.isFreed_of_fields (Obj.data_mapFields hd _))
 refine wpAny_pure ⟨_,rfl,wpAny_pure (hQ _ ⟨_,g1,(Obj.cls_mapFields ..).trans hc,?_⟩ (Heap.SameBut.update ..))⟩
 rw[Obj.data_mapFields hd]
 simp[rawInt]
theorem Ct {T i:Nat}{places:Array Value}{oT:Obj}{nT:Nat}{Q:Option Value->Shared->Prop}(hh:A.handled=none)(hi:eD s.heap I (.ref T) i S es.size ep)(hS:dn s.heap S es ep t)(hT:s.heap.get? T=some oT)(hTd:oT.data=.seq places nT)(hp:places[i]?=none)
  (hQ:∀ h',Heap.ExtBut I s.heap h'->Q none {s with heap:=h' }):wpAny (model P w) A (pyNext (.ref I)) Q E s:=by
 obtain⟨o,ho,hc,hd⟩:=id hi
 obtain⟨oS,hoS,hxS,hdS⟩:=hS.ex
 unfold pyNext
 refine wpAny_bind (wpAny_attempt (wpAny_callSpecial?_slot (name:=Str.ofString "__next__") hi.ty f_ (wpAny_call_entry f_ hi.ty nV ?_ (nJ _))))
 unfold Builtin.«set_iterator.__next__» slotArgs
 simp only[List.isEmpty_nil,Bool.not_true,Bool.false_eq_true,↓reduceIte,List.length_nil,bne_self_eq_false]
 refine wpAny_bind (wpAny_pure ?_)
 refine wpAny_bind (wpAny_fieldsOf ho hd ?_)
 dsimp only
 refine wpAny_bind (wpAny_setEntries_of hoS hdS hS.fits ?_)
 simp only[bne_self_eq_false,Bool.false_eq_true,↓reduceIte]
 refine wpAny_bind (wpAny_seqItems hT hTd ?_)
 dsimp only
 rw[show places[((i:Nat):Int).toNat]?=none from hp]
 dsimp only
 refine wpAny_bind (wpAny_setField ho hd (by simp) ?_)
 have g1:=Heap.get?_update_self (Obj.mapFields (·.setIfInBounds 0 (rawInt 0))) ho (Obj.isFreed_of_fields (Obj.data_mapFields hd _))
 have d1:=Obj.data_mapFields hd (·.setIfInBounds 0 (rawInt 0))
 refine wpAny_bind (wpAny_setField g1 d1 (by simp) ?_)
 exact zV (s:={s with heap:=(s.heap.update I (Obj.mapFields (·.setIfInBounds 0 (rawInt 0)))).update I (Obj.mapFields (·.setIfInBounds 2 .none))}) hh fun h' k=>hQ h' fun b o hb e=>k b o ((Heap.SameBut.update ..).extBut b o hb ((Heap.SameBut.update ..).extBut b o hb e))
end
end L2
namespace L2
variable [Reg]
section
variable {P:Program}{w:World}{A:Around}{E:Value->Shared->Prop}{s:Shared}{I S:Addr}{es:Array (Int×Value)}{n ep:Nat}{t:SetTable}
theorem ye {slot given:Nat}{Q:Option (Value×Nat)->Shared->Prop}(hS:dn s.heap S es ep t)(hb:w.params.followText "set-order"=false)(hpl:(!t.plain&&decide (es.size>1))=false)(hled:t.led=true)
  (h:Q (match es[SetTable.below t.place slot]?,t.place[SetTable.below t.place slot]? with | some (_,x),some j=>some (x,j+1) | _,_=>none) s):wpAny (model P w) A (setNext S slot given ep) Q E s:=by
 obtain⟨oS,hoS,hxS,hdS⟩:=hS.ex
 unfold setNext
 refine wpAny_bind (wpAny_setState_of hoS hdS hS.fits ?_)
 dsimp only
 unfold setsByText
 refine wpAny_bind (wpAny_bind (wpAny_askSetting (wpAny_pure ?_)))
 rw[show (model P w).w.params.followText "set-order"=false from hb]
 simp only[Bool.false_eq_true,↓reduceIte]
 refine wpAny_ite_split (fun z=>?_) fun _=>?_
 ·have z':(!t.plain&&decide (es.size>1))=true:=z
  rw[hpl] at z';cases z'
 ·refine wpAny_bind (show wpAny (model P w) A (if (!t.led&&!es.isEmpty)=true then unsupported "set:maker-not-led" else pure PUnit.unit) _ E s from ?_)
  rw[if_neg (by rw[hled];simp)]
  exact wpAny_pure (wpAny_pure h)
theorem yd {slot given:Nat}{Q:Option (Value×Nat)->Shared->Prop}(hS:dn s.heap S es ep t)(hb:w.params.followText "set-order"=true)
  (h:Q (((pickOrder (w.params.setOrder S ep) es)[given]?).map fun e=>(e.2,slot)) s):wpAny (model P w) A (setNext S slot given ep) Q E s:=by
 obtain⟨oS,hoS,hxS,hdS⟩:=hS.ex
 unfold setNext
 refine wpAny_bind (wpAny_setState_of hoS hdS hS.fits ?_)
 dsimp only
 unfold setsByText
 refine wpAny_bind (wpAny_bind (wpAny_askSetting (wpAny_pure ?_)))
 rw[show (model P w).w.params.followText "set-order"=true from hb]
 simp only[↓reduceIte,bne_self_eq_false,Bool.false_eq_true]
 unfold setWalk
 refine wpAny_bind (wpAny_bind (wpAny_setState_of hoS hdS hS.fits ?_))
 dsimp only
 unfold setsByText
 refine wpAny_bind (wpAny_bind (wpAny_askSetting (wpAny_pure ?_)))
 rw[show (model P w).w.params.followText "set-order"=true from hb]
 simp only[↓reduceIte]
 refine wpAny_bind (wpAny_askSetting (wpAny_pure (wpAny_pure h)))
theorem qX {α:Type}:∀ (l:List α) (i:Nat) (h:i<l.length),(l[i]::l.eraseIdx i).Perm l
 | [],i,h=>by simp at h
 | x::r,0,h=>by simp
 | x::r,i+1,h=>by
  have hi:i<r.length:=by simpa using h
  have:=qX r i hi
  rw[List.getElem_cons_succ,List.eraseIdx_cons_succ]
  exact (List.Perm.swap x r[i] (r.eraseIdx i)).trans (this.cons x)
theorem yN {α:Type}(next:Nat->Nat):∀ (fuel k:Nat) (left:List α) (out:Array α),left.length=fuel->((pickOrder.go next fuel k left out).toList).Perm (out.toList++left)
 | 0,k,left,out,h=>by
  rw[pickOrder.go,List.eq_nil_of_length_eq_zero h,List.append_nil]
 | fuel+1,k,left,out,h=>by
  have hlt:next k % left.length<left.length:=Nat.mod_lt _ (by omega)
  rw[pickOrder.go,List.getElem?_eq_getElem hlt]
  dsimp only
  refine (yN next fuel (k+1) _ _ (by rw[List.length_eraseIdx];simp[hlt];omega)).trans ?_
  rw[Array.toList_push,List.append_assoc]
  refine List.Perm.append_left _ ?_
  exact qX left _ hlt
theorem GR {α:Type}(next:Nat->Nat)(xs:Array α):(pickOrder next xs).toList.Perm xs.toList:=by
 have:=yN next xs.size 0 xs.toList #[] (by simp)
 simpa [pickOrder] using this
theorem B7 {m:Nat}{Q:Nat->Shared->Prop}(hm:m≠0)(h:∀ i d,i<m->Q i {s with drawn:=d}):wpAny (model P w) A (choose .order m) Q E s:=fun Γ p hΓ=>by
 show Sem.wp _ _ (.choose .order m .pure) _ _ _ _
 rw[Sem.wp_choose]
 refine⟨hm,?_⟩
 have:=wpAny_pure (M:=model P w) (A:=A) (E:=E) (h _ _ (Nat.mod_lt _ (Nat.pos_of_ne_zero hm)):Q ((model P w).w.draws .order (s.drawn.get .order) % m) {s with drawn:=s.drawn.bump .order})
 exact this Γ p hΓ
theorem vZ {α:Type}:∀ (n:Nat) (xs:List α) (s:Shared) (Q:List α->Shared->Prop),xs.length=n->(∀ ys d,ys.Perm xs->Q ys {s with drawn:=d})->wpAny (model P w) A (drawOrder n xs) Q E s
 | 0,xs,s,Q,hl,h=>by
  rw[drawOrder]
  exact wpAny_pure (h [] s.drawn (by rw[List.eq_nil_of_length_eq_zero hl]))
 | n+1,[],s,Q,hl,h=>by simp at hl
 | n+1,x::r,s,Q,hl,h=>by
  unfold drawOrder
  refine wpAny_bind (B7 (by simp) fun i d hi=>?_)
  rw[List.getElem?_eq_getElem hi]
  dsimp only
  refine wpAny_bind (vZ n _ _ _ (by rw[List.length_eraseIdx];simp at hi hl ⊢;split <;> omega) fun ys d' hp=>wpAny_pure (h _ d' ?_))
  exact (hp.cons _).trans (qX _ i hi)
theorem zN:Slot "set_iterator" "__iter__" "set_iterator.__iter__":=Slot.of (owner:="set_iterator") (n:="__iter__") (by rw[typeLookup_type,builtinLookup_eq_fast];kernel_rfl) (by decide +kernel) (by decide +kernel) (by decide +kernel) (.inl (by decide +kernel)) (by rw[isSubtype_type];kernel_rfl)
theorem Cy:entryFor table "set_iterator.__iter__"=some Builtin.«dict_keyiterator.__iter__»:=entryFor_alias (id':="dict_keyiterator.__iter__") (by kernel_rfl) rfl (by decide +kernel) (by kernel_rfl)
theorem Bi (a:Value):argsOk "set_iterator.__iter__" ⟨[a],[]⟩:=by
 unfold argsOk
 rw[signature?_of (id:="set_iterator.__iter__") (n:=['_','_','r','e','t','i','_','_']) (o:=['r','o','t','a','r','e','t','i','_','t','e','s']) (by kernel_rfl) yD]
 kernel_rfl
theorem w8 {first:Value}{i:Nat}{Q:Value->Shared->Prop}(x:eD s.heap I first i S n ep)(h:Q (.ref I) s):wpAny (model P w) A (pyIter (.ref I)) Q E s:=
 wpAny_pyIter_slot x.ty zN (wpAny_call_entry zN x.ty Cy (show wpAny _ _ (ret (.ref I)) _ _ s from wpAny_pure ⟨_,rfl,"set_iterator",_,x.ty,f_.lookup,h⟩) (Bi _))
theorem eD.keep {h h':Heap}{first:Value}{i:Nat}(x:eD h I first i S n ep)(k:∀ o,h.get? I=some o->h'.get? I=some o):eD h' I first i S n ep:=let ⟨o,h1,r⟩:=x;⟨o,k o h1,r⟩
theorem Ko (hh:A.handled=none)(I S:Addr)(hne:S≠I)(es:Array (Int×Value))(ep:Nat)(t:SetTable)(sl:Nat->Nat)(x:Nat->Value)
  (hnx:∀ i,i<es.size->∀ (s1:Shared) (A1:Around) (E1:Value->Shared->Prop) (Q1:Option (Value×Nat)->Shared->Prop),dn s1.heap S es ep t->Q1 (some (x i,sl (i+1))) s1->wpAny (model P w) A1 (setNext S (sl i) i ep) Q1 E1 s1)
  (hend:∀ (s1:Shared) (A1:Around) (E1:Value->Shared->Prop) (Q1:Option (Value×Nat)->Shared->Prop),dn s1.heap S es ep t->Q1 none s1->wpAny (model P w) A1 (setNext S (sl es.size) es.size ep) Q1 E1 s1) :
  Walks P w A I [I,S] [I] es.size (fun i v=>v=x i) (fun i h=>eD h I (.int (sl i) 0) i S es.size ep∧dn h S es ep t) where
 sub:=fun b hb=>by simp at hb;simp[hb]
 frame:=fun _ _ _ st hk=>⟨st.1.keep fun o e=>hk I (by simp) o e,st.2.keep fun o e=>hk S (by simp) o e⟩
 item:=fun i s Q E hi st hQ=>E_ st.1 st.2 (Ne.symm hne) (hnx i hi) fun h' it' sb=>hQ _ h' s.toks rfl ⟨it',st.2.keep fun o e=>sb.extBut S o hne e⟩ fun b o hb e=>sb.extBut b o (fun z=>hb (by simp[z])) e
 done:=fun s Q E st hQ=>E9 hh st.1 st.2 hend fun h' he=>hQ h' s.toks fun b o hb e=>he b o (fun z=>hb (by simp[z])) e
 self:=fun _ _ _ _ st hQ=>w8 st.1 hQ
theorem Km (hh:A.handled=none)(I S T:Addr)(hne:S≠I)(hnT:T≠I)(es:Array (Int×Value))(ep:Nat)(t:SetTable)(pl:List Nat)(hlen:pl.length=es.size)(hpl:∀ p∈pl,p<es.size) :
  Walks P w A I [I,S,T] [I] es.size (fun i v=>∃ p e,pl[i]?=some p∧es[p]?=some e∧v=e.2) (fun i h=>eD h I (.ref T) i S es.size ep∧dn h S es ep t∧∃ oT nT,h.get? T=some oT∧oT.data=.seq (pl.map fun (p:Nat)=>Value.int p 0).toArray nT) where
 sub:=fun b hb=>by simp at hb;simp[hb]
 frame:=fun _ _ _ st hk=>⟨st.1.keep fun o e=>hk I (by simp) o e,st.2.1.keep fun o e=>hk S (by simp) o e,let ⟨oT,nT,h1,h2⟩:=st.2.2;⟨oT,nT,hk T (by simp) oT h1,h2⟩⟩
 item:=fun i s Q E hi st hQ=>by
  obtain⟨st1,st2,oT,nT,h1,h2⟩:=id st
  have hi':i<pl.length:=by omega
  have hp:=hpl pl[i] (List.getElem_mem hi')
  have g1:pl[i]?=some pl[i]:=List.getElem?_eq_getElem hi'
  have g2:es[pl[i]]?=some es[pl[i]]:=Array.getElem?_eq_getElem hp
  refine Cu (place:=pl[i]) (tk:=0) (x:=es[pl[i]]) st1 st2 h1 h2 (by rw[List.getElem?_toArray,List.getElem?_map,g1];rfl) g2 fun h' it' sb=>?_
  exact hQ _ h' s.toks ⟨pl[i],es[pl[i]],g1,g2,rfl⟩ ⟨it',st2.keep fun o e=>sb.extBut S o hne e,oT,nT,sb.extBut T oT hnT h1,h2⟩ fun b o hb e=>sb.extBut b o (fun z=>hb (by simp[z])) e
 done:=fun s Q E st hQ=>by
  obtain⟨st1,st2,oT,nT,h1,h2⟩:=id st
  exact Ct hh st1 st2 h1 h2 (by simp[hlen]) fun h' he=>hQ h' s.toks fun b o hb e=>he b o (fun z=>hb (by simp[z])) e
 self:=fun _ _ _ _ st hQ=>w8 st.1 hQ
def slotAt (xs:Array Nat)(i:Nat):Nat:=match i with
 | 0=>0
 | i+1=>(xs[i]?).getD 0+1
theorem vk {xs:Array Nat}(h:dZ xs){i:Nat}(hi:i≤xs.size):SetTable.below xs (slotAt xs i)=i:=by
 obtain⟨c1,c2,c3⟩:=lB h (slotAt xs i)
 generalize SetTable.below xs (slotAt xs i)=p at *
 have lo:∀ j a,j<i->xs[j]?=some a->a<slotAt xs i:=fun j a hj e=>by
  cases i with
  | zero=>omega
  | succ k=>
   have hk:k<xs.size:=by omega
   have e2:xs[k]?=some xs[k]:=Array.getElem?_eq_getElem hk
   have:=h.le (show j≤k by omega) e e2
   show a<(xs[k]?).getD 0+1
   rw[e2]
   simp
   omega
 have up:∀ j a,i≤j->xs[j]?=some a->slotAt xs i≤a:=fun j a hj e=>by
  cases i with
  | zero=>exact Nat.zero_le _
  | succ k=>
   have hk:k<xs.size:=by omega
   have e2:xs[k]?=some xs[k]:=Array.getElem?_eq_getElem hk
   have:=h.lt (show k<j by omega) e2 e
   show (xs[k]?).getD 0+1≤a
   rw[e2]
   simp
   omega
 rcases Nat.lt_trichotomy p i with q | q | q
 ·have hp:p<xs.size:=by omega
  have a1:=lo p _ q (Array.getElem?_eq_getElem hp)
  have a2:=c3 p _ (Nat.le_refl _) (Array.getElem?_eq_getElem hp)
  omega
 ·exact q
 ·have hi':i<xs.size:=by omega
  have a1:=c2 i _ q (Array.getElem?_eq_getElem hi')
  have a2:=up i _ (Nat.le_refl _) (Array.getElem?_eq_getElem hi')
  omega
end
end L2
namespace L2
variable [Reg]
section
variable {P:Program}{w:World}{A:Around}{E:Value->Shared->Prop}{s:Shared}{I S:Addr}{es:Array (Int×Value)}{n ep:Nat}{t:SetTable}{L:List Int}
theorem CS {t:SetTable}{n:Nat}(h:t.fits n=true):t.place.size=n:=by
 unfold SetTable.fits at h
 simp at h
 exact h.1
theorem D8 {Q:Value->Shared->Prop}(hh:A.handled=none)(hS:cF P w s.heap S (eN w) L)
  (h:∀ (I:Addr) (fp:List Addr) (ks:List Int) (V1:Nat->Value->Prop) (St:Nat->Heap->Prop) (h':Heap) (d:Drawn),s.heap.objs.size≤I->I<h'.objs.size->(∀ b o,s.heap.get? b=some o->h'.get? b=some o)->(∀ b∈fp,b=S∨s.heap.objs.size≤b)->Walks P w A I fp [I] ks.length V1 St->St 0 h' ->
   (∀ i v,i<ks.length->V1 i v->∃ tk,v=.int (ks.getD i 0) tk)->ks.Perm L->Q (.ref I) {s with heap:=h',drawn:=d}):wpAny (model P w) A (pyIter (.ref S)) Q E s:=by
 obtain⟨o,es,ep,t,ho,hx,hd,hE,hP,hB,hf,hT⟩:=id hS
 have at0:dn s.heap S es ep t:=⟨⟨o,ho,hx,hd⟩,hf⟩
 have hTy:s.TypeIs (.ref S) "set":=⟨o,ho,hx.1⟩
 refine wpAny_pyIter_slot hTy F.slot_set_iter (wpAny_call_entry F.slot_set_iter hTy Cw ?_ (F.args_set_iter_1 _))
 unfold Builtin.«frozenset.__iter__» Builtin.Frozenset.slot0 slotArgs
 simp only[List.isEmpty_nil,Bool.not_true,Bool.false_eq_true,↓reduceIte,bind_assoc,List.length_nil,bne_self_eq_false]
 unfold Builtin.Frozenset.addrOf Builtin.Frozenset.sizeOf
 refine wpAny_bind (wpAny_pure ?_)
 dsimp only
 refine wpAny_bind (wpAny_pure ?_)
 refine wpAny_bind (wpAny_bind (wpAny_setEntries_of ho hd hf (wpAny_pure ?_)))
 unfold setDrawn
 simp only[bind_assoc]
 refine wpAny_bind (wpAny_setState_of ho hd hf ?_)
 dsimp only
 unfold setsByText
 simp only[bind_assoc]
 refine wpAny_bind (wpAny_askSetting ?_)
 refine wpAny_bind (wpAny_pure (wpAny_bind (wpAny_pure ?_)))
 have lenP:(es.toList.map fun e=>fB e.2).length=es.size:=by simp
 have keyAt:∀ (i:Nat) (e:Int×Value),es[i]?=some e->∃ tk,e.2=.int (fB e.2) tk:=fun i e he=>by
  obtain⟨k,tk,e1,_⟩:=nU hE (show e∈es.toList from by rw[← Array.getElem?_toList] at he;exact List.mem_of_getElem? he)
  exact⟨tk,by rw[e1];rfl⟩
 have hps:t.place.size=es.size:=CS hf
 refine wpAny_ite_split (fun z=>?_) fun z=>?_
 ·refine wpAny_bind (vZ es.size (List.range es.size) s _ (by simp) fun ys d hp=>?_)
  have hyl:ys.length=es.size:=by rw[hp.length_eq];simp
  have hyr:∀ p∈ys,p<es.size:=fun p h=>by have:=hp.mem_iff.mp h;simpa using this
  simp only[newTuple,newFields]
  refine wpAny_bind (wpAny_newObj_type ?_ (by show (ys.map fun i=>rawInt (i:Nat)).toArray.size≤sizeLine;rw[List.size_toArray,List.length_map,hyl];exact fits_of_scanBound hB))
  refine wpAny_bind (wpAny_setEpoch_of (Heap.get?_push_of_some _ ho) hd hf ?_)
  refine wpAny_bind (wpAny_newObj_type ?_ (by size_fits))
  refine wpAny_pure ⟨_,rfl,"set_iterator",_,⟨_,Heap.get?_push_size _ rfl,rfl⟩,f_.lookup,?_⟩
  generalize hoT:({cls:=.type "tuple",data:=.seq (ys.map fun i=>rawInt (i:Nat)).toArray}:Obj)=oT
  have nfT:oT.isFreed=false:=by rw[← hoT];rfl
  have gT:(s.heap.push oT).get? s.heap.objs.size=some oT:=Heap.get?_push_size _ nfT
  have szT:(s.heap.push oT).objs.size=s.heap.objs.size+1:=size_push' ..
  have W:=Km (P:=P) (w:=w) hh (s.heap.push oT).objs.size S s.heap.objs.size (by rw[szT];exact Nat.ne_of_lt (Nat.lt_succ_of_lt (Heap.lt_size ho))) (by rw[szT];exact Nat.ne_of_lt (Nat.lt_succ_self _)) es ep t ys hyl hyr
  have hkl:(ys.map fun p=>fB ((es[p]?.map (·.2)).getD .none)).length=es.size:=by simp[hyl]
  refine h (s.heap.push oT).objs.size _ (ys.map fun p=>fB ((es[p]?.map (·.2)).getD .none)) _ _ _ d (by rw[szT];exact Nat.le_succ _) (Heap.lt_size (Heap.get?_push_size _ rfl)) (fun b o e=>Heap.get?_push_of_some _ (Heap.get?_push_of_some _ e)) (fun b hb=>?_) (hkl.symm▸W) ⟨⟨_,Heap.get?_push_size _ rfl,rfl,by rw[hkl];rfl⟩,at0.keep fun o e=>Heap.get?_push_of_some _ (Heap.get?_push_of_some _ e),oT,0,Heap.get?_push_of_some _ gT,by rw[← hoT];rfl⟩ (fun i v hi hv'=>?_) ?_
  ·simp at hb
   rcases hb with rfl | rfl | rfl
   ·exact .inr (Nat.le_succ _)
   ·exact .inl rfl
   ·exact .inr (Nat.le_refl _)
  ·revert hv'
   refine fun zqq=>L2.kA zqq fun p e e1 e2 zq4=>?_
   clear zqq
   subst zq4
   obtain⟨tk,e3⟩:=keyAt p e e2
   refine⟨tk,?_⟩
   rw[List.getD,List.getElem?_map,e1]
   simp only[Option.map_some,Option.getD_some,e2]
   exact e3
  ·refine ((hp.map _).trans ?_).trans hP
   have:∀ (l:List (Int×Value)),((List.range l.length).map fun p=>fB ((l[p]?.map (·.2)).getD .none))=l.map fun e=>fB e.2:=fun l=>by
    apply List.ext_getElem
    ·simp
    ·intro i h1 h2
     have hi:i<l.length:=by simpa using h1
     simp[hi]
   have q:=this es.toList
   simp only[Array.length_toList,Array.getElem?_toList] at q
   rw[q]
 ·refine wpAny_bind (wpAny_pure ?_)
  refine wpAny_bind (wpAny_setEpoch_of ho hd hf ?_)
  simp only[newFields]
  refine wpAny_bind (wpAny_newObj_type ?_ (by size_fits))
  have fin:∀ (sl:Nat->Nat) (x:Nat->Value) (ks:List Int),sl 0=0->ks.length=es.size->(∀ i,i<es.size->∃ tk,x i=.int (ks.getD i 0) tk)->ks.Perm L ->
    (∀ i,i<es.size->∀ (s1:Shared) (A1:Around) (E1:Value->Shared->Prop) (Q1:Option (Value×Nat)->Shared->Prop),dn s1.heap S es ep t->Q1 (some (x i,sl (i+1))) s1->wpAny (model P w) A1 (setNext S (sl i) i ep) Q1 E1 s1) ->
    (∀ (s1:Shared) (A1:Around) (E1:Value->Shared->Prop) (Q1:Option (Value×Nat)->Shared->Prop),dn s1.heap S es ep t->Q1 none s1->wpAny (model P w) A1 (setNext S (sl es.size) es.size ep) Q1 E1 s1) ->
    Q (.ref s.heap.objs.size) {s with heap:=s.heap.push {cls:=.type "set_iterator",data:=.fields #[.int 0 0,.int 0 0,.ref S,.int es.size 0,.int ep 0]}}:=fun sl x ks e0 hk hv hp h1 h2=>by
   have W:=Ko (P:=P) (w:=w) hh s.heap.objs.size S (Nat.ne_of_lt (Heap.lt_size ho)) es ep t sl x h1 h2
   rw[← hk] at W
   have g:(s.heap.push {cls:=.type "set_iterator",data:=.fields #[.int 0 0,.int 0 0,.ref S,.int es.size 0,.int ep 0]}).get? s.heap.objs.size=some {cls:=.type "set_iterator",data:=.fields #[.int 0 0,.int 0 0,.ref S,.int es.size 0,.int ep 0]}:=Heap.get?_push_size _ rfl
   refine h s.heap.objs.size _ ks _ _ _ s.drawn (Nat.le_refl _) (by rw[size_push'];exact Nat.lt_succ_self _) (fun b o e=>Heap.get?_push_of_some _ e) (fun b hb=>?_) W ⟨⟨_,g,rfl,?_⟩,at0.keep fun o e=>Heap.get?_push_of_some _ e⟩ (fun i v hi hv'=>?_) hp
   ·simp at hb
    rcases hb with rfl | rfl
    ·exact .inr (Nat.le_refl _)
    ·exact .inl rfl
   ·rw[e0,hk];simp
   ·rw[hv'];exact hv i (by omega)
  refine wpAny_pure ⟨_,rfl,"set_iterator",_,⟨_,Heap.get?_push_size _ rfl,rfl⟩,f_.lookup,?_⟩
  by_cases hb:w.params.followText "set-order"=true
  ·have pp:=GR (w.params.setOrder S ep) es
   have pl:(pickOrder (w.params.setOrder S ep) es).size=es.size:=by simpa using pp.length_eq
   refine fin (fun _=>0) (fun i=>((pickOrder (w.params.setOrder S ep) es)[i]?.map (·.2)).getD .none) ((pickOrder (w.params.setOrder S ep) es).toList.map fun e=>fB e.2) rfl (by simp[pl]) (fun i hi=>?_) ((pp.map _).trans hP) (fun i hi s1 A1 E1 Q1 st q=>yd st hb ?_) fun s1 A1 E1 Q1 st q=>yd st hb ?_
   ·have hi':i<(pickOrder (w.params.setOrder S ep) es).size:=by omega
    have e1:=Array.getElem?_eq_getElem hi'
    have hm:(pickOrder (w.params.setOrder S ep) es)[i]∈es.toList:=pp.mem_iff.mp (by simp)
    obtain⟨k,tk,e2,_⟩:=nU hE hm
    refine⟨tk,?_⟩
    rw[e1]
    simp only[Option.map_some,Option.getD_some]
    rw[List.getD,List.getElem?_map,Array.getElem?_toList,e1]
    simp only[Option.map_some,Option.getD_some]
    rw[e2]
    rfl
   ·have hi':i<(pickOrder (w.params.setOrder S ep) es).size:=by omega
    rw[Array.getElem?_eq_getElem hi'] at q ⊢
    exact q
   ·rw[Array.getElem?_eq_none (by omega)]
    exact q
  ·have hb':w.params.followText "set-order"=false:=by simpa using hb
   have hpl:(!t.plain&&decide (es.size>1))=false:=by
    cases q:(!t.plain&&decide (es.size>1)) with
    | false=>rfl
    | true=>
     refine absurd ?_ z
     have q':(!w.params.followText "set-order"&&(!t.plain&&decide (es.size>1)))=true:=by rw[hb',q];rfl
     exact q'
   have hled:t.led=true:=by rw[hT.led];unfold eN;rw[hb'];rfl
   refine fin (slotAt t.place) (fun i=>(es[i]?.map (·.2)).getD .none) (es.toList.map fun e=>fB e.2) rfl (by simp) (fun i hi=>?_) hP (fun i hi s1 A1 E1 Q1 st q=>ye st hb' hpl hled ?_) fun s1 A1 E1 Q1 st q=>ye st hb' hpl hled ?_
   ·have e1:=Array.getElem?_eq_getElem hi
    obtain⟨tk,e2⟩:=keyAt i _ e1
    refine⟨tk,?_⟩
    rw[e1]
    simp only[Option.map_some,Option.getD_some]
    rw[List.getD,List.getElem?_map,Array.getElem?_toList,e1]
    simp only[Option.map_some,Option.getD_some]
    exact e2
   ·rw[vk hT.rise (by omega)]
    have e1:=Array.getElem?_eq_getElem hi
    have hi':i<t.place.size:=by omega
    have e2:=Array.getElem?_eq_getElem hi'
    rw[e1] at q ⊢
    rw[e2]
    have e3:slotAt t.place (i+1)=t.place[i]+1:=by show (t.place[i]?).getD 0+1=_;rw[e2];rfl
    rw[e3] at q
    exact q
   ·rw[vk hT.rise (by omega),Array.getElem?_eq_none (Nat.le_refl _)]
    exact q
theorem Jq:isSubtype (.type "set") (.type "set")=pure true:=by rw[isSubtype_type];kernel_rfl
theorem DC {Q:Bool->Shared->Prop}(ty:s.TypeIs (.ref S) "set")(h:Q false s):wpAny (model P w) A (Builtin.List.listLengthHint (.ref S)) Q E s:=by
 unfold Builtin.List.listLengthHint
 refine wpAny_bind (wpAny_specialOf ty F.slot_set_len.lookup ?_)
 generalize e0:("set.__len__":String)=nm
 wp_delta
 rw[show splitId nm=some ("set","__len__") from by subst e0;decide +kernel]
 subst e0
 refine wpAny_bind (wpAny_isInstance (T:="set") (b:=true) ty Jq (wpAny_ite_split (fun z=>absurd z (by decide)) fun _=>wpAny_ite_split (fun _=>?_) fun z=>absurd (by decide +kernel) z))
 exact wpAny_bind (wpAny_typeOf ty (wpAny_pure h))
theorem DV {V1:Nat->Value->Prop}:∀ {acc:Array Value} {ks:List Int},ItemsOf V1 acc ks.length->(∀ i v,i<ks.length->V1 i v->∃ tk,v=.int (ks.getD i 0) tk)->IntsAre acc.toList ks:=fun {acc ks} h hv=>by
 have key:∀ (us:List Value) (ks:List Int),us.length=ks.length->(∀ (i:Nat) (v:Value),us[i]?=some v->∃ tk,v=.int (ks.getD i 0) tk)->IntsAre us ks:=by
  intro us
  induction us with
  | nil=>
   intro ks hl _
   cases ks with
   | nil=>exact .nil
   | cons k r=>simp at hl
  | cons u r ih=>
   intro ks hl hv
   cases ks with
   | nil=>simp at hl
   | cons k q=>
    obtain⟨tk,e⟩:=hv 0 u rfl
    rw[e]
    exact .cons k tk (ih q (by simpa using hl) fun i v e=>hv (i+1) v (by simpa using e))
 refine key _ _ (by rw[Array.length_toList];exact h.1) fun i v e=>?_
 rw[Array.getElem?_toList] at e
 have hi:i<ks.length:=by rw[← h.1];exact (Array.getElem?_eq_some_iff.mp e).1
 exact hv i v hi (h.2 i v e)
theorem Cd {R:List Value->Shared->Prop}(hh:A.handled=none)(hS:cF P w s.heap S (eN w) L)
  (h:∀ (h':Heap) (tk:Nat) (d:Drawn) (acc:List Value) (ks:List Int),s.heap.objs.size<h'.objs.size->(∀ b o,s.heap.get? b=some o->h'.get? b=some o)->IntsAre acc ks->ks.Perm L->R acc {s with heap:=h',toks:=tk,drawn:=d}):wpAny (model P w) A (collect (.ref S)) R E s:=by
 obtain⟨o,es,ep,t,ho,hx,hd,hE,hP,hB,hf,hT⟩:=id hS
 have hln:L.length≤sizeLine:=by
  have:=hP.length_eq
  have:=fits_of_scanBound hB
  simp at *
  omega
 unfold collect
 refine wpAny_bind (wpAny_runValue (codeAny_builtin F.entry_proto_collect ?_))
 rw[Around.under_plainId F.plain_proto_collect _]
 refine (show wpAny _ A.in1 (newList [] >>= fun l=>again (.builtin "list.__iadd__" ⟨[l,.ref S],[]⟩)) _ _ s from wpAny_bind (wpAny_newObj_type ?_))
 refine wpAny_pure ⟨plainId_quiet F.plain_list_iadd _,codeAny_builtin F.entry_list_iadd ?_⟩
 rw[Around.under_plainId F.plain_list_iadd _]
 have hSl:S<s.heap.objs.size:=Heap.lt_size ho
 generalize hol:({cls:=.type "list",data:=.seq ([]:List Value).toArray}:Obj)=ol
 have gl:(s.heap.push ol).get? s.heap.objs.size=some ol:=Heap.get?_push_size _ (by rw[← hol];rfl)
 have hS1:cF P w (s.heap.push ol) S (eN w) L:=hS.keep fun o e=>Heap.get?_push_of_some _ e
 have ty1:Shared.TypeIs {s with heap:=s.heap.push ol} (.ref S) "set":=⟨o,Heap.get?_push_of_some _ ho,hx.1⟩
 show wpAny _ A.in1 (Builtin.List.listExtendWith (.ref s.heap.objs.size) (.ref S) (.ref s.heap.objs.size)) _ _ _
 unfold Builtin.List.listExtendWith
 refine wpAny_bind (wpAny_typeOf ty1 ?_)
 have n1:Builtin.List.listSameRef (.ref s.heap.objs.size) (.ref S)=false:=by
  have:s.heap.objs.size≠S:=Nat.ne_of_gt hSl
  simp[Builtin.List.listSameRef,this]
 simp only[n1,show (Value.type "set"==Value.type "list")=false by decide,show (Value.type "set"==Value.type "tuple")=false by decide,Bool.or_false,Bool.false_eq_true,if_false]
 refine wpAny_bind (D8 (A:=A.in1) hh hS1 fun I fp ks V1 St h' d hI hI2 hk hfp W st hv hp=>?_)
 have ty2:Shared.TypeIs {s with heap:=h',drawn:=d} (.ref S) "set":=⟨o,hk _ _ (Heap.get?_push_of_some _ ho),hx.1⟩
 refine wpAny_bind (wpAny_holding (DC ty2 ?_))
 have szl:(s.heap.push ol).objs.size=s.heap.objs.size+1:=size_push' ..
 have hne:s.heap.objs.size∉fp:=fun z=>by
  rcases hfp _ z with q | q
  ·exact absurd q (Nat.ne_of_gt hSl)
  ·have q':(s.heap.push ol).objs.size≤s.heap.objs.size:=q
   rw[szl] at q'
   exact absurd q' (Nat.not_succ_le_self _)
 have hIs:s.heap.objs.size<I:=by
  have q':(s.heap.push ol).objs.size≤I:=hI
  rw[szl] at q'
  exact q'
 have hnI:s.heap.objs.size≠I:=Nat.ne_of_lt hIs
 have loop:∀ (h2:Heap) (c:Nat) (tk:Nat),St 0 h2->(∀ b o,b≠s.heap.objs.size->s.heap.get? b=some o->h2.get? b=some o)->h2.get? s.heap.objs.size=some {cls:=.type "list",dict:=none,data:=.seq #[] c,slots:=#[]} ->
   codeAny (model P w) A (.builtin "list.extend.loop" ⟨[.ref s.heap.objs.size,.ref I,.ref s.heap.objs.size],[]⟩) (fun r s'=>match r with
    | .ok (.ret v)=>wpAny (model P w) A (match v with
     | .ref a=>(do match (← load a).data with | .seq xs _=>pure xs.toList | _=>unsupported "internal:collect")
     | _=>unsupported "internal:collect") R E s'
    | .ok _=>False
    | .error e=>E e s') {s with heap:=h2,toks:=tk,drawn:=d}:=fun h2 c tk st2 hk2 hl2=>by
  refine codeAny_extend_loopS W.toS (by rw[hp.length_eq];exact hln) s.heap.objs.size hne _ ks.length 0 _ #[] c rfl (Nat.zero_le _) st2 hl2 (ItemsOf.nil _) fun s3 acc' c' hm hS' hacc=>?_
  obtain⟨h3,g3,d3,t3,o3⟩:=s3
  have eg:g3=s.gens:=hm.gens
  have ed:d3=d:=hm.drawn
  have eo:o3=s.os:=hm.os
  subst eg ed eo
  refine wpAny_bind (wpAny_load hS' ?_)
  refine wpAny_pure (h h3 t3 d3 acc'.toList ks (Heap.lt_size hS') (fun b o e=>?_) ?_ hp)
  ·have hb:=Heap.lt_size e
   refine hm.heap b o (fun z=>?_) (hk2 b o (Nat.ne_of_lt hb) e)
   rcases List.mem_cons.mp z with z | z
   ·exact absurd z (Nat.ne_of_lt hb)
   ·rw[List.mem_singleton.mp z] at hb
    exact absurd (Nat.lt_trans hb hIs) (Nat.lt_irrefl _)
  ·exact DV hacc hv
 have gl2:h'.get? s.heap.objs.size=some {cls:=.type "list",dict:=none,data:=.seq #[] 0,slots:=#[]}:=by rw[hk _ _ gl,← hol]
 have hk0:∀ b o,b≠s.heap.objs.size->s.heap.get? b=some o->h'.get? b=some o:=fun b o _ e=>hk b o (Heap.get?_push_of_some _ e)
 refine wpAny_ite_split (fun _=>?_) fun _=>wpAny_pure ⟨plainId_quiet F.plain_extend_loop _,loop h' 0 s.toks st hk0 gl2⟩
 refine wpAny_bind (wpAny_rule ?_)
 refine wpAny_bind ?_
 refine (show wpAny _ _ (updateSeq s.heap.objs.size (·.push .none) >>= fun _=>updateSeq s.heap.objs.size (·.pop)) _ _ _ from wpAny_bind (wpAny_updateSeq gl2 rfl ?_))
 have u1:=Heap.get?_update_self (Obj.mapSeq (·.push Value.none)) gl2 rfl
 refine wpAny_updateSeq (hz:=by seq_fits) u1 rfl ?_
 have u2:=Heap.get?_update_self (Obj.mapSeq (·.pop)) u1 rfl
 have oth:∀ b o,b≠s.heap.objs.size->h'.get? b=some o->((h'.update s.heap.objs.size (Obj.mapSeq (·.push Value.none))).update s.heap.objs.size (Obj.mapSeq (·.pop))).get? b=some o:=fun b o hb e=>(Heap.get?_update_other _ _ (Ne.symm hb)).trans ((Heap.get?_update_other _ _ (Ne.symm hb)).trans e)
 exact wpAny_pure ⟨plainId_quiet F.plain_extend_loop _,loop _ _ s.toks (W.frame 0 _ _ st fun b hb o e=>oth b o (fun z=>hne (z▸hb)) e) (fun b o hb e=>oth b o hb (hk0 b o hb e)) u2⟩
end
end L2
namespace L2
variable [Reg]
section
variable {P:Program}{w:World}{A:Around}{E:Value->Shared->Prop}{s:Shared}{I S:Addr}{L:List Int}
theorem Jh {Q:Value->Shared->Prop}(hh:A.handled=none)(hS:cF P w s.heap S (eN w) L)(hl:L.length<64)
  (h:∀ (h':Heap) (tk:Nat) (d:Drawn) (D:Addr) (out:Array Value) (ep:Nat),(∀ b o,s.heap.get? b=some o->h'.get? b=some o)->s.heap.objs.size≤D->h'.get? D=some (seqObj "list" out ep)->IntsAre out.toList (eM L)->Q (.ref D) {s with heap:=h',toks:=tk,drawn:=d}) :
  wpAny (model P w) A (call (.builtin "sorted") [.ref S]) Q E s:=by
 refine Calls.call_function_entry kind_sorted plain_sorted entry_sorted (args_sorted1 _) ?_
 unfold Builtin.«sorted»
 refine wpAny_bind (m:=checkCount "sorted" 1 1 _) (wpAny_pure (wpAny_bind (Cd (A:=A.in1) hh hS fun h' tk d acc ks hsz hk hi hp=>?_)))
 have hal:acc.length<64:=by rw[hi.length,hp.length_eq];exact hl
 have hz:(64:Nat)≤sizeLine:=by decide
 refine wpAny_bind (wpAny_newList ?_ (by omega))
 have g:(h'.push (seqObj "list" acc.toArray 0)).get? h'.objs.size=some (seqObj "list" acc.toArray 0):=Heap.get?_push_size _ rfl
 refine wpAny_bind (wpAny_holding (wpAny_call_entry slot_list_sort ⟨_,g,rfl⟩ entry_list_sort (list_sort_tree g hi hal fun out ns' a1 a2 a3=>⟨_,rfl,?_⟩) (args_list_sort _)))
 have e:ns'=eM L:=PySem.W.ksm_same ((a2.trans hp).trans (iW L).symm) a3 (rq L)
 subst e
 obtain⟨ep,g2⟩:=sortedHeap_at (vs:=acc) (out:=out) g
 exact wpAny_pure ⟨_,rfl,h _ tk d h'.objs.size out ep (fun b o e=>(sortedHeap_old (Nat.ne_of_lt (Heap.lt_size (hk b o e))) (Heap.lt_size (Heap.get?_push_of_some _ (hk b o e)))).trans (Heap.get?_push_of_some _ (hk b o e))) (Nat.le_of_lt hsz) g2 a1⟩
end
def uniq (ns:List Int):List Int:=dQ (fun i=>ns.getD i 0) ns.length
def tj (P:Program)(w:World)(S:Addr)(L:List Int):HO:=.ext fun h=>cF P w h S (eN w) L
section
variable {X:Cx}{O:Ow}{a:Expr}{pos p p2 pos2:Pos}{fa:aa->Option PyData}
theorem BP (hc:X.calm=true):dz X (.type "set") (fun xs H Q=>∃ (q:Addr) (ns:List Int),xs=[.ref q]∧aN X.K H q (ns.map V.int)∧ns.length<64∧∀ S,H S=none->Q (.ref S) (upd H S (tj X.prog X.w S (uniq ns)))):=by
 intro pins s σ H xs us Q I r h
 revert h
 refine fun zqq=>L2.jB zqq fun q ns zq2 hq hl k=>?_
 clear zqq
 subst zq2
 obtain⟨u,zq1,rx⟩:=vals1 r
 subst zq1
 cases rx
 obtain⟨its,r',pl,hz⟩:=I.list hq
 have hI:=intsAre_of r'
 have hlen:=r'.length
 rw[List.length_map] at hlen
 have hb:(66:Nat)<scanBound:=by decide
 refine BG (I.ok.hd hc) pl.isList hI (by rw[List.size_toArray];omega) fun h' tk T hk=>?_
 have hu:dQ (fun i=>ns.getD i 0) its.toArray.size=uniq ns:=by unfold uniq;rw[List.size_toArray,hlen]
 rw[hu] at T
 have hfr:H s.heap.objs.size=none:=I.hok.fresh (Nat.le_refl _)
 refine⟨.ref s.heap.objs.size,_,I.laid (t':=tk) (o:=tj X.prog X.w s.heap.objs.size (uniq ns)) hk (Nat.le_refl _) ?_,rfl,k _ hfr⟩
 refine⟨T,?_,fun h1 h2 t1 e=>t1.keep e⟩
 obtain⟨o,_,_,_,e,_⟩:=id T
 exact⟨o,e⟩
theorem BR (hc:X.calm=true):dz X (.builtin "sorted") (fun xs H Q=>∃ (S:Addr) (L:List Int),xs=[.ref S]∧H S=some (tj X.prog X.w S L)∧L.length<64∧∀ l,H l=none->Q (.ref l) (upd H l (.lst ((eM L).map V.int)))):=by
 intro pins s σ H xs us Q I r h
 revert h
 refine fun zqq=>L2.jB zqq fun S L zq2 hS hl k=>?_
 clear zqq
 subst zq2
 obtain⟨u,zq1,rx⟩:=vals1 r
 subst zq1
 cases rx
 have T:cF X.prog X.w s.heap S (eN X.w) L:=(I.hok S _ hS).1
 refine Jh (I.ok.hd hc) T hl fun h' tk d D out ep hk hD g hi=>?_
 have hfr:H D=none:=I.hok.fresh hD
 have sm:aj H (upd H D (.lst ((eM L).map V.int))):=bK hfr
 have nD:∀ b o,s.heap.get? b=some o->b≠D:=fun b o e=>Nat.ne_of_lt (Nat.lt_of_lt_of_le (Heap.lt_size e) hD)
 have hz:(64:Nat)≤sizeLine:=by decide
 have hpl:=(iW L).length_eq
 refine⟨.ref D,_,I.step (g':=s.gens) (t':=tk) (d':=d) (ch:=[]) (h':=h') (H':=upd H D (.lst ((eM L).map V.int))) (fun _ z=>nomatch z) (fun b o _ _ _ e _=>hk b o e) (fun b o _ _ _ e _=>⟨o.slots,hk b o e⟩) (fun b o _ e n=>by rw[aD (nD b o e)];exact n) (fun b o _ e=>⟨o,hk b o e⟩)
  (fun b ys e=>sm _ _ e) (fun b o ys e=>sm _ _ e) (fun b ys e=>⟨#[],by rw[sm _ _ e];simp⟩) (fun b e=>sm _ _ e) (fun m hm=>hm.keeps hk) ?_ I.bare,rfl,k D hfr⟩
 exact I.hok.laid (fun b u e=>hk b u e) hD ⟨by rw[List.length_map];omega,out.toList,ep,tQ hi,by rw[g]⟩
def eR:PyData->Option (List PyData)
 | .list ds=>(iU ds).bind fun ns=>if decide (ns.length<64)=true then some ((eM (uniq ns)).map .int) else none
 | _=>none
theorem lI (hc:X.calm=true)(hg:Gl X "sorted")(hm:X.mg "sorted"=none)(hg2:Gl X "set")(hm2:X.mg "set"=none)(ha:PR X O a fa)
  (he2:starEach [a] X.env=(false,eval a X.env)::starEach [] X.env:=by rfl) (hpl2:(backTo pos2 (starEach [] X.env)).any (·.1)=false:=by rfl)
  (he:starEach [.Call (.Name "set" p2) [a] [] pos2] X.env=(false,eval (.Call (.Name "set" p2) [a] [] pos2) X.env)::starEach [] X.env:=by rfl) (hpl:(backTo pos (starEach [] X.env)).any (·.1)=false:=by rfl)
  (hv:bootBuiltins "sorted"=some (.builtin "sorted"):=by decide +kernel) (hv2:bootBuiltins "set"=some (.type "set"):=by decide +kernel) :
  aP X O (.Call (.Name "sorted" p) [.Call (.Name "set" p2) [a] [] pos2] [] pos) (fun ρ=>(fa ρ).bind eR):=
 (jC (BR hc) hg hm hv (pa_cons (yE (BP hc) hg2 hm2 hv2 (pa_cons ha pa_nil he2) (by decide) (by decide) he2 hpl2) pa_nil he) (by decide) (by decide) he hpl).imp fun σ H Q ⟨hid,H0,ρ,ow,r,E,hf,k⟩=>by
  obtain⟨d,h1,h2⟩:=bind_some hf
  refine⟨hid,H0,ρ,ow,d,E,h1,fun x H1 s1 D1=>?_⟩
  unfold eR at h2
  split at h2
  case h_2=>cases h2
  obtain⟨ns,h3,h4⟩:=bind_some h2
  split at h4
  case isFalse=>cases h4
  rename_i hlt
  obtain rfl:=Option.some.inj h4
  have e:=n_ h3
  subst e
  obtain⟨q,vs,rfl,q1,r1⟩:=df D1
  have e2:=r1.isInts
  subst e2
  have hlt':=of_decide_eq_true hlt
  refine ⟨q,ns,rfl,(bA _ _).seq q1,hlt',(fun S hS=>⟨S,uniq ns,rfl,bC,Nat.lt_of_le_of_lt (oq _ _) hlt',fun l hl=>?_⟩)⟩
  exact k l _ _ (s1.trans ((bK hS).trans (bK hl))) ((s1.trans (bK hS)).free hl) bC (ar.ints _)
end
end L2
namespace L2
variable [Reg]
abbrev Probe:=SetTable.Probe
def lz (t:SetTable):Nat->Probe->Probe
 | 0,p=>p
 | n+1,p=>lz t n (t.advance p)
theorem zP {b:Bool}{t:SetTable}(h:bY b t){i j:Nat}(e:t.place[i]?=some j):t.slot j=.live i:=by
 unfold SetTable.slot
 have hb:(t.place[SetTable.below t.place j]?==some j)=true:=by
  cases hc:(t.place[SetTable.below t.place j]?==some j) with
  | true=>rfl
  | false=>exact absurd e (yl h.rise hc i)
 dsimp only
 rw[if_pos hb]
 have e2:t.place[SetTable.below t.place j]?=some j:=by simpa using hb
 congr 1
 rcases Nat.lt_trichotomy (SetTable.below t.place j) i with hlt | he | hgt
 ·have:=h.rise.lt hlt e2 e;omega
 ·exact he
 ·have:=h.rise.lt hgt e e2;omega
theorem Jg {b:Bool}{t:SetTable}(h:bY b t){j:Nat}(e:∀ i:Nat,t.place[i]?≠some j):t.slot j=.empty:=by
 unfold SetTable.slot
 dsimp only
 rw[if_neg (by intro z;exact e _ (by simpa using z)),h.nod,has_none]
 simp
theorem zO {b:Bool}{t:SetTable}(h:bY b t)(j:Nat):(∃ i:Nat,t.place[i]?=some j∧t.slot j=.live i)∨((∀ i:Nat,t.place[i]?≠some j)∧t.slot j=.empty):=by
 by_cases hc:∃ i:Nat,t.place[i]?=some j
 ·obtain⟨i,e⟩:=id hc
  exact .inl ⟨i,e,zP h e⟩
 ·exact .inr ⟨fun i e=>hc ⟨i,e⟩,Jg h fun i e=>hc ⟨i,e⟩⟩
theorem rl {α:Type}(xs:Array α){p:Nat}(hp:p≤xs.size)(x:α)(i:Nat):(SetTable.insertAt xs p x)[i]?=if i<p then xs[i]? else if i=p then some x else xs[i - 1]?:=by
 unfold SetTable.insertAt
 rw[Array.getElem?_append,Array.getElem?_push]
 simp only[Array.size_push,Array.size_extract,Nat.sub_zero,Nat.min_eq_left hp]
 by_cases h1:i<p
 ·rw[if_pos (by omega),if_pos h1,if_neg (by omega),Array.getElem?_extract]
  simp[h1]
  omega
 ·rw[if_neg h1]
  by_cases h2:i=p
  ·rw[if_pos (by omega),if_pos h2,if_pos h2]
  ·rw[if_neg (by omega),if_neg h2,Array.getElem?_extract]
   by_cases h3:i - (p+1)<xs.size - p
   ·rw[if_pos (by simpa using h3)]
    congr 1
    omega
   ·rw[if_neg (by simpa using h3),Array.getElem?_eq_none (by omega)]
theorem Bb {t t':SetTable}(e:t'.mask=t.mask)(p:Probe):t'.advance p=t.advance p:=by unfold SetTable.advance;rw[e]
theorem u3 {t t':SetTable}(e:t'.mask=t.mask):∀ n p,lz t' n p=lz t n p
 | 0,_=>rfl
 | n+1,p=>by show lz t' n (t'.advance p)=_;rw[Bb e,u3 e n];rfl
theorem Jn {t t':SetTable}(e:t'.mask=t.mask)(h:Int):t'.probeStart h=t.probeStart h:=by unfold SetTable.probeStart;rw[e]
def pth (t:SetTable)(h:Int)(n:Nat):Nat:=(lz t n (t.probeStart h)).j
structure m9 (t:SetTable)(es:Array (Int×Value)):Prop where
 size:t.place.size=es.size
 at_:∀ (i:Nat) (e:Int×Value) (j:Nat),t.place[i]?=some j->es[i]?=some e->∃ k,pth t e.1 k=j∧∀ k',k'<k->t.slot (pth t e.1 k')≠.empty
end L2
namespace L2
variable [Reg]
theorem EB {b:Bool}{t:SetTable}(h:bY b t){i j:Nat}(e:t.slot j=.live i):t.place[i]?=some j:=by
 rcases zO h j with ⟨i',e1,e2⟩ | ⟨e1,e2⟩
 ·rw[e] at e2
  cases e2
  exact e1
 ·rw[e] at e2;cases e2
theorem Hm {t t':SetTable}(e:t'.mask=t.mask)(h:Int)(n:Nat):pth t' h n=pth t h n:=by unfold pth;rw[Jn e,u3 e]
structure AA (t:SetTable)(h:Int)(K:Nat):Prop where
 lt:K<10*SetTable.turns t.mask
 emp:t.slot (pth t h K)=.empty
 bef:∀ c,c<K->t.slot (pth t h c)≠.empty
theorem y0 {b:Bool}{t:SetTable}(ht:bY b t){j:Nat}(hj:t.slot j=.empty){j':Nat}(h:t.slot j'≠.empty):(t.put j).1.slot j'≠.empty:=by
 rcases zO ht j' with ⟨i,e1,e2⟩ | ⟨e1,e2⟩
 ·obtain⟨c1,c2,c3⟩:=lB ht.rise j
  have hg:=rl t.place c1 j
  have:∃ i':Nat,(t.put j).1.place[i']?=some j':=by
   rcases Nat.lt_or_ge i (SetTable.below t.place j) with q | q
   ·exact⟨i,by show (SetTable.insertAt _ _ _)[i]?=_;rw[hg,if_pos q,e1]⟩
   ·exact⟨i+1,by show (SetTable.insertAt _ _ _)[i+1]?=_;rw[hg,if_neg (by omega),if_neg (by omega)];exact e1⟩
  obtain⟨i',e⟩:=id this
  rw[zP (ht.put hj) e]
  intro z;cases z
 ·exact absurd e2 h
theorem m9.put {b:Bool}{t:SetTable}{es:Array (Int×Value)}(ht:bY b t)(hp:m9 t es){h:Int}{K:Nat}(hK:AA t h K)(x:Value):m9 (t.put (pth t h K)).1 (SetTable.insertAt es (t.put (pth t h K)).2 (h,x)):=by
 obtain⟨c1,c2,c3⟩:=lB ht.rise (pth t h K)
 have c1':SetTable.below t.place (pth t h K)≤es.size:=by rw[← hp.size];exact c1
 have em:(t.put (pth t h K)).1.mask=t.mask:=rfl
 have epth:∀ g n,pth (t.put (pth t h K)).1 g n=pth t g n:=fun g n=>Hm em g n
 refine⟨?_,fun i e j h1 h2=>?_⟩
 ·show (SetTable.insertAt t.place (SetTable.below t.place (pth t h K)) (pth t h K)).size=(SetTable.insertAt es (SetTable.below t.place (pth t h K)) (h,x)).size
  have a1:=(SetTable.insertAt_perm t.place (SetTable.below t.place (pth t h K)) (pth t h K)).length_eq
  have a2:=(SetTable.insertAt_perm es (SetTable.below t.place (pth t h K)) (h,x)).length_eq
  simp only[Array.length_toList,Array.size_push] at a1 a2
  rw[a1,a2,hp.size]
 ·have h1':(SetTable.insertAt t.place (SetTable.below t.place (pth t h K)) (pth t h K))[i]?=some j:=h1
  have h2':(SetTable.insertAt es (SetTable.below t.place (pth t h K)) (h,x))[i]?=some e:=h2
  rw[rl _ c1] at h1'
  rw[rl _ c1'] at h2'
  have old:∀ i0:Nat,t.place[i0]?=some j->es[i0]?=some e->∃ k,pth (t.put (pth t h K)).1 e.1 k=j∧∀ k',k'<k->(t.put (pth t h K)).1.slot (pth (t.put (pth t h K)).1 e.1 k')≠.empty:=fun i0 g1 g2=>by
   obtain⟨k,q1,q2⟩:=hp.at_ i0 e j g1 g2
   exact⟨k,by rw[epth];exact q1,fun k' hk'=>by rw[epth];exact y0 ht hK.emp (q2 k' hk')⟩
  by_cases q1:i<SetTable.below t.place (pth t h K)
  ·rw[if_pos q1] at h1' h2'
   exact old i h1' h2'
  ·rw[if_neg q1] at h1' h2'
   by_cases q2:i=SetTable.below t.place (pth t h K)
   ·rw[if_pos q2] at h1' h2'
    obtain rfl:=Option.some.inj h1'
    obtain rfl:=Option.some.inj h2'
    exact⟨K,epth _ _,fun k' hk'=>by rw[epth];exact y0 ht hK.emp (hK.bef k' hk')⟩
   ·rw[if_neg q2] at h1' h2'
    exact old (i - 1) h1' h2'
structure lh (t:SetTable)(hs:List Int)(owner:Array (Option Nat))(k:Nat):Prop where
 size:owner.size=t.mask+1
 at_:∀ j i,owner[j]?=some (some i)->i<k∧∃ hh,hs[i]?=some hh∧∃ n,pth t hh n=j∧∀ n',n'<n->(owner.getD (pth t hh n') (some 0)).isNone=false
 one:∀ j j' i:Nat,owner[j]?=some (some i)->owner[j']?=some (some i)->j=j'
 all:∀ i,i<k->∃ j:Nat,owner[j]?=some (some i)
theorem Fe {owner:Array (Option Nat)}{j:Nat}(h:(owner.getD j (some 0)).isNone=true):owner[j]?=some none:=by
 rw[Array.getD_eq_getD_getElem?] at h
 cases q:owner[j]? with
 | none=>rw[q] at h;cases h
 | some o=>
  rw[q] at h
  cases o with
  | none=>rfl
  | some _=>exact L2.dF h
theorem lh.room {t:SetTable}{hs:List Int}{owner:Array (Option Nat)}{k:Nat}(I:lh t hs owner k)(hk:k<t.mask+1):∃ j,j<t.mask+1∧(owner.getD j (some 0)).isNone=true:=by
 refine Classical.byContradiction fun hn=>?_
 have hall:∀ j,j<t.mask+1->∃ i,owner[j]?=some (some i):=fun j hj=>by
  have hb:j<owner.size:=by rw[I.size];exact hj
  cases q:owner[j] with
  | none=>exact absurd ⟨j,hj,by rw[Array.getD_eq_getD_getElem?,Array.getElem?_eq_getElem hb,q];rfl⟩ hn
  | some i=>exact⟨i,by rw[Array.getElem?_eq_getElem hb,q]⟩
 have hnd:((List.range (t.mask+1)).map fun j=>((owner.getD j none).getD 0)).Nodup:=by
  unfold List.Nodup
  rw[List.pairwise_map]
  refine List.Pairwise.imp_of_mem (R:=(·<·)) (fun {a c} ha hc hlt he=>?_) List.pairwise_lt_range
  obtain⟨i1,e1⟩:=hall a (List.mem_range.mp ha)
  obtain⟨i2,e2⟩:=hall c (List.mem_range.mp hc)
  simp only[Array.getD_eq_getD_getElem?,e1,e2,Option.getD_some] at he
  subst he
  have:=I.one a c i1 e1 e2
  omega
 have:=List.Nodup.length_le_of_subset (l₂:=List.range k) hnd (fun z hz=>by
  obtain⟨j,hj,zq2⟩:=List.mem_map.mp hz
  subst zq2
  obtain⟨i,e⟩:=hall j (List.mem_range.mp hj)
  simp only[Array.getD_eq_getD_getElem?,e,Option.getD_some]
  exact List.mem_range.mpr (I.at_ j i e).1)
 rw[List.length_map,List.length_range,List.length_range] at this
 omega
theorem lh.step {t:SetTable}{hs:List Int}{owner:Array (Option Nat)}{k:Nat}(I:lh t hs owner k){h:Int}(hh:hs[k]?=some h){n:Nat}(h1:(owner.getD (pth t h n) (some 0)).isNone=true)(h2:∀ n',n'<n->(owner.getD (pth t h n') (some 0)).isNone=false):lh t hs (owner.setIfInBounds (pth t h n) (some k)) (k+1):=by
 have hj:=Fe h1
 have hb:pth t h n<owner.size:=(Array.getElem?_eq_some_iff.mp hj).1
 have old:∀ j i:Nat,owner[j]?=some (some i)->(owner.setIfInBounds (pth t h n) (some k))[j]?=some (some i):=fun j i e=>by
  rw[Array.getElem?_setIfInBounds]
  by_cases q:pth t h n=j
  ·rw[q,e] at hj;cases hj
  ·rw[if_neg q];exact e
 have full:∀ j:Nat,(owner.getD j (some 0)).isNone=false->((owner.setIfInBounds (pth t h n) (some k)).getD j (some 0)).isNone=false:=fun j e=>by
  rw[Array.getD_eq_getD_getElem?,Array.getElem?_setIfInBounds]
  by_cases q:pth t h n=j
  ·rw[if_pos q,if_pos hb];rfl
  ·rw[if_neg q,← Array.getD_eq_getD_getElem?];exact e
 have new:∀ j i:Nat,(owner.setIfInBounds (pth t h n) (some k))[j]?=some (some i)->(j=pth t h n∧i=k)∨owner[j]?=some (some i):=fun j i e=>by
  rw[Array.getElem?_setIfInBounds] at e
  by_cases q:pth t h n=j
  ·rw[if_pos q,if_pos hb] at e
   cases e
   exact .inl ⟨q.symm,rfl⟩
  ·rw[if_neg q] at e
   exact .inr e
 refine⟨by rw[Array.size_setIfInBounds];exact I.size,fun j i e=>?_,fun j j' i e e'=>?_,fun i hi=>?_⟩
 ·rcases new j i e with ⟨rfl,rfl⟩ | e
  ·exact ⟨(by omega),h,hh,n,rfl,(fun n' hn'=>full _ (h2 n' hn'))⟩
  ·obtain⟨a1,hh',a2,n',a3,a4⟩:=I.at_ j i e
   exact ⟨(by omega),hh',a2,n',a3,(fun m hm=>full _ (a4 m hm))⟩
 ·rcases new j i e with ⟨rfl,rfl⟩ | e1
  ·rcases new j' _ e' with ⟨rfl,_⟩ | e2
   ·rfl
   ·have:=(I.at_ j' _ e2).1;omega
  ·rcases new j' i e' with ⟨rfl,rfl⟩ | e2
   ·have:=(I.at_ j _ e1).1;omega
   ·exact I.one j j' i e1 e2
 ·by_cases q:i=k
  ·subst q
   exact⟨pth t h n,by rw[Array.getElem?_setIfInBounds,if_pos rfl,if_pos hb]⟩
  ·obtain⟨j,e⟩:=I.all i (by omega)
   exact⟨j,old j i e⟩
end L2
namespace L2
variable [Reg]
end L2
namespace L2
variable [Reg]
abbrev TK (P:Program)(w:World)(h:Heap)(k:List Int)(q:Addr):Prop:=IsTupleKey (intKind P w) h k q
abbrev z9 (P:Program)(w:World)(k:List Int):Int:=tupleKeyHash (intKind P w) k
def TV (P:Program)(w:World)(h:Heap)(p:List Int×Value):Prop:=∃ q,p.2=.ref q∧TK P w h p.1 q
section
variable {P:Program}{w:World}{A:Around}{E:Value->Shared->Prop}{s:Shared}{a q:Addr}{b:Bool}{k:List Int}
end
end L2
namespace L2
variable [Reg]
structure lr (P:Program)(w:World)(h:Heap)(es:Array (Int×Value))(t:SetTable)(b:Bool)(L:List (List Int×Value)):Prop where
 ents:es.toList.Perm (L.map fun p=>(z9 P w p.1,p.2))
 tv:∀ p∈L,TV P w h p
 tab:bY b t
 path:m9 t es
section
variable {P:Program}{w:World}{A:Around}{E:Value->Shared->Prop}{s:Shared}{a q:Addr}{b:Bool}{k:List Int}{es:Array (Int×Value)}{t:SetTable}{L:List (List Int×Value)}{h:Heap}
theorem lr.at_ (T:lr P w h es t b L){i:Nat}{e:Int×Value}(he:es[i]?=some e):∃ p∈L,e=(z9 P w p.1,p.2)∧∃ q,p.2=.ref q∧TK P w h p.1 q:=by
 rw[← Array.getElem?_toList] at he
 have:=T.ents.mem_iff.mp (List.mem_of_getElem? he)
 obtain⟨p,hp,rfl⟩:=List.mem_map.mp this
 exact⟨p,hp,rfl,T.tv p hp⟩
theorem lr.live (T:lr P w h es t b L){i j:Nat}(hj:t.slot j=.live i):∃ e,es[i]?=some e:=by
 have h1:=EB T.tab hj
 have h2:=(Array.getElem?_eq_some_iff.mp h1).1
 exact⟨es[i]'(by rw[← T.path.size];exact h2),Array.getElem?_eq_getElem _⟩
end
end L2
namespace L2
variable [Reg]
def A3 (m n:Nat):Prop:=(m=7∧n≤4)∨(m=31∧n≤18)∨(m=127∧n≤76)
def qr (P:Program)(w:World)(h:Heap)(a:Addr)(b:Bool)(L:List (List Int×Value)):Prop:=
 ∃ o es ep t,h.get? a=some o∧o.ExactSet∧o.data=.set es ep t∧t.fits es.size=true∧lr P w h es t b L∧A3 t.mask es.size
section
variable {P:Program}{w:World}{A:Around}{E:Value->Shared->Prop}{s:Shared}{a q:Addr}{b:Bool}{k:List Int}{es:Array (Int×Value)}{t:SetTable}{L:List (List Int×Value)}{h h':Heap}
theorem TK.keep (x:TK P w h k q)(kp:∀ o,h.get? q=some o->h'.get? q=some o):TK P w h' k q:=by
 obtain⟨o,items,n,h1,r⟩:=id x
 exact ⟨o,items,n,kp o h1,r⟩
end
end L2
namespace L2
variable [Reg]
section
variable {P:Program}{w:World}{A:Around}{R:Result->Shared->Prop}{I:Addr}{fp wr:List Addr}{G:Array GenState->Array GenState->Prop}{n:Nat}{V1:Nat->Value->Prop}{St:Nat->Shared->Prop}{b:Bool}{h h':Heap}{S:Addr}{L:List (List Int×Value)}
theorem TV.keep {p:List Int×Value}(x:TV P w h p)(kp:∀ q o,p.2=.ref q->h.get? q=some o->h'.get? q=some o):TV P w h' p:=by
 obtain⟨q,e,hq⟩:=id x
 exact⟨q,e,TK.keep hq fun o=>kp q o e⟩
theorem qr.keep (T:qr P w h S b L)(k1:∀ o,h.get? S=some o->h'.get? S=some o)(k2:∀ p∈L,TV P w h' p):qr P w h' S b L:=by
 revert T
 refine fun zqq=>L2.r6 zqq fun o es ep t h1 h2 h3 h4 T h5=>?_
 clear zqq
 exact ⟨o,es,ep,t,k1 o h1,h2,h3,h4,(⟨T.ents,k2,T.tab,T.path⟩),h5⟩
end
end L2
namespace L2
variable [Reg]
section
variable {P:Program}{w:World}{A:Around}{E:Value->Shared->Prop}{s:Shared}
end
end L2
namespace L2
variable [Reg]
section
variable {P:Program}{w:World}{A:Around}{E:Value->Shared->Prop}{s:Shared}{I S:Addr}{es:Array (Int×Value)}{n ep:Nat}{t:SetTable}
end
end L2
namespace L2
open PySem PySem.Spec PyProof.Rows PySem.W
variable [Reg]
def z_:List Int->List Int->Bool
 | [],[]=>false
 | [],_::_=>true
 | _::_,[]=>false
 | x::xs,y::ys=>if x=y then z_ xs ys else decide (x<y)
abbrev K0 (a b:List Int):Prop:=z_ b a=false
end L2
namespace L2
open PySem PySem.Spec PyProof.Rows PySem.W
variable [Reg]
section
variable {P:Program}{w:World}{A:Around}{E:Value->Shared->Prop}{s:Shared}{Q:Bool->Shared->Prop}{a x y:Addr}{kx ky:List Int}
structure gY (P:Program)(w:World)(h:Heap)(vs:List Value)(ks:List (List Int)):Prop where
 len:vs.length=ks.length
 at_:∀ i,i<vs.length->∃ q,vs.getD i .none=.ref q∧TK P w h (ks.getD i []) q
 ne:∀ k∈ks,k≠[]
theorem gY.keep {h h':Heap}{vs:List Value}{ks:List (List Int)}(K:gY P w h vs ks)(kp:∀ i q o,i<vs.length->vs.getD i .none=.ref q->h.get? q=some o->h'.get? q=some o):gY P w h' vs ks:=
 ⟨K.len,fun i hi=>by
  obtain⟨q,e,hq⟩:=K.at_ i hi
  exact⟨q,e,TK.keep hq fun o=>kp i q o hi e⟩,K.ne⟩
theorem gY.tail {h:Heap}{v:Value}{k:List Int}{vs:List Value}{ks:List (List Int)}(K:gY P w h (v::vs) (k::ks)):gY P w h vs ks:=
 ⟨by have:=K.len;simpa using this,fun i hi=>by
  obtain⟨q,e,hq⟩:=K.at_ (i+1) (by simpa using hi)
  exact⟨q,by simpa using e,by simpa using hq⟩,fun k' hk'=>K.ne k' (List.mem_cons_of_mem _ hk')⟩
theorem gY.tups {h:Heap}:∀ {vs:List Value} {ks:List (List Int)},gY P w h vs ks->∃ fs,KatTups h vs fs∧fs.length=vs.length∧∀ f∈fs,∃ i t,f=Value.int i t
 | [],_,_=>⟨[],KatTups.nil,rfl,fun f hf=>by cases hf⟩
 | v::vs,[],K=>by have:=K.len;simp at this
 | v::vs,k::ks,K=>by
  obtain⟨fs,f1,f2,f3⟩:=gY.tups K.tail
  obtain⟨q,e,o,items,n,h1,h2,h3,h4⟩:=K.at_ 0 (by simp)
  have e':v=.ref q:=by simpa using e
  have h4':ItemsAre (intKind P w) k items.toList:=by simpa using h4
  have hk:=K.ne k List.mem_cons_self
  cases hit:items.toList with
  | nil=>
   rw[hit] at h4'
   cases h4'
   exact absurd rfl hk
  | cons f r=>
   rw[hit] at h4'
   cases h4' with
   | cons g1 g2=>
    obtain⟨t,ef⟩:=Value.isInt_shape g1
    have h0:items[0]?=some f:=by rw[← Array.getElem?_toList,hit];rfl
    subst e'
    refine⟨f::fs,KatTups.cons h1 h2 h3 h0 f1,by simp[f2],fun f' hf'=>?_⟩
    rcases List.mem_cons.mp hf' with rfl | hf'
    ·exact ⟨_,t,ef⟩
    ·exact f3 f' hf'
end
end L2
namespace L2
open PySem PySem.Spec PyProof.Rows PySem.W
variable [Reg]
section
variable {P:Program}{w:World}{A:Around}{E:Value->Shared->Prop}{s:Shared}{S:Addr}{es:Array (Int×Value)}{ep:Nat}{t:SetTable}{C:List Value->List (List Int)->Prop}
end
def lu (K:PySem.W.Frag)(H:Hp)(p:V×List Int):Prop:=∃ q,p.1=.ref q∧cn K H q (p.2.map V.int)
theorem w6 {P:Program}{w:World}:∀ {ns:List Int} {us:List Value},IntsAre us ns->ItemsAre (intKind P w) ns us
 | _,_,.nil=>.nil
 | _,_,.cons k t r=>.cons (intKind_is P w k t) (w6 r)
section
variable {X:Cx}{pins:List (Addr×Obj)}{σ:St}{H:Hp}{s:Shared}
theorem lu.tk {p:V×List Int}(I:Inv X pins σ H s)(h:lu X.K H p){u:Value}(r:RelV p.1 u):∃ q,u=.ref q∧TK X.prog X.w s.heap p.2 q:=by
 obtain⟨q,e,hq⟩:=id h
 rw[e] at r
 cases r
 obtain⟨its,r',⟨o,h1,h2,n,h3⟩,_⟩:=I.tuple hq
 exact ⟨q,rfl,o,its.toArray,n,h1,h2,h3,(by simpa using w6 (intsAre_of r'))⟩
end
section
variable {X:Cx}
end
end L2
namespace L2
open PySem PySem.Spec PyProof.Rows PySem.W
variable [Reg]
section
variable {X:Cx}{O:Ow}{a:Expr}{pos p p2 pos2:Pos}{fa:aa->Option PyData}
theorem lu.mono {K:PySem.W.Frag}{H H':Hp}(e:aj H H'){p:V×List Int}(h:lu K H p):lu K H' p:=by
 obtain⟨q,e1,g⟩:=id h
 exact⟨q,e1,e.tup g⟩
end
end L2
namespace L2
variable [Reg]
section
variable {X:Cx}{O:Ow}
end
end L2
namespace L2
variable [Reg]
section
variable {K:PySem.W.Frag}{O O':Ow}{hid:Addr->Prop}{H0 H H':Hp}{σ:St}{ρ:aa}{ow:List Addr}
theorem zC {ρ:aa}{i j:Nat}{d:PyData}(q:(ρ.set i none)[j]?=some (some d)):j≠i∧ρ[j]?=some (some d):=by
 by_cases hj:j=i
 ·subst hj
  have hl:j<ρ.length:=by have:=(List.getElem?_eq_some_iff.mp q).1;simpa using this
  rw[List.getElem?_set_self hl] at q
  cases q
 ·rw[List.getElem?_set_ne (Ne.symm hj)] at q
  exact⟨hj,q⟩
theorem aE.reown (e:aE K O hid H0 σ H ρ ow){i:Nat}(h:∀ j,j≠i->O'.s.lookup j=O.s.lookup j)(h0:O'.s≠[]):aE K O' hid H0 σ H (ρ.set i none) ow:=by
 refine⟨by simpa using e.len,e.base,fun j d hj q=>?_,?_,e.isl,e.ishL,fun z=>absurd z h0⟩
 ·obtain⟨hne,q⟩:=zC q
  exact e.val j d (by rw[← h j hne];exact hj) q
 ·obtain⟨A,a1,a2,a3⟩:=e.own
  refine⟨A,fun j t d hj q=>?_,a2,a3⟩
  obtain⟨hne,q⟩:=zC q
  exact a1 j t d (by rw[← h j hne];exact hj) q
end
section
variable {X:Cx}{O O':Ow}{st:Stmt}{rest:List Stmt}{F G:aa->Option aq}{e:Expr}{f:aa->Option PyData}{pos:Pos}
def mf:aq->Option aq
 | .rt d=>some (.rt d)
 | _=>none
theorem Ir {o o':aq}(h:mf o=some o'):∃ d,o=.rt d∧o'=.rt d:=by
 cases o with
 | rt d=>cases h;exact⟨d,rfl,rfl⟩
 | nx ρ=>exact L2.aQ h
 | bk ρ=>exact L2.aQ h
 | ct ρ=>exact L2.aQ h
theorem Jl {i:Nat}{T:Ty}(h:PS X st (ml (jK X.K O T f) (lK i)))(h2:eF X ⟨(i,T)::O.s,O.r⟩ rest G):eF X O (st::rest) (fun ρ=>(f ρ).bind fun d=>(G (ρ.set i (some d))).bind mf):=(si h h2).imp fun D σ H zpat=>by
 obtain⟨hid,H0,ρ,ow,o,E,hf,k⟩:=zpat
 obtain⟨d,g1,g2⟩:=bind_some hf
 obtain⟨o1,g3,g4⟩:=bind_some g2
 obtain⟨d1,zq1,zq2⟩:=Ir g4
 subst zq1
 subst zq2
 refine⟨hid,H0,ρ,ow,d,E,g1,fun v as H' s n Dv=>⟨hid,H0,ρ.set i (some d),as++ow,.rt d1,?_,g3,k⟩⟩
 have q:=(E.reown (i:=i) (O':=⟨(i,T)::O.s,O.r⟩) (fun j hj=>by simp[List.lookup_cons,beq_false_of_ne hj]) (List.cons_ne_nil _ _)).setT (i:=i) (t:=T) s (by simp[List.lookup_cons]) n Dv
 rw[List.set_set] at q
 exact q
theorem aE.free {K:PySem.W.Frag}{O:Ow}{hid:Addr->Prop}{H0 H:Hp}{σ:St}{ρ:aa}{ow:List Addr}(E:aE K O hid H0 σ H ρ ow)(r:Ty):aE K ⟨[],r⟩ hid H0 σ H ρ []:=by
 refine⟨E.len,E.baseS.trans (fun b o q=>(by rw[bb (by simp)];exact q)),fun i d _ q=>?_,⟨fun _=>[],(fun i t d h=>(by cases h)),(fun i j p _ h=>(by cases h)),(fun i p h=>(by cases h))⟩,(fun l h=>(by cases h)),E.ishL,fun _=>rfl⟩
 obtain⟨v,a,b⟩:=E.raw q
 exact⟨v,a,b.mono (fR fun b z=>by
  rcases z with z | z
  ·exact z
  ·cases z)⟩
end
section
variable {X:Cx}{O:Ow}{i:Nat}{x:Str}{pos' spos:Pos}{elt tg iter:Expr}{ifs:List Expr}{scope:Scope}{pos:Pos}{fi:aa->Option (List PyData)}{S:PyData->aa->Option aa}{ft:aa->Option Bool}{fe:aa->Option PyData}{k:Nat}{N:List Str}{ix:List Nat}
end
section
variable {X:Cx}{O:Ow}{i:Nat}
end
end L2
namespace L2
variable [Reg]
section
variable {K:PySem.W.Frag}{O:Ow}{hid:Addr->Prop}{H0 H H' C C':Hp}{σ:St}{ρ:aa}{ow:List Addr}
theorem bq.snoc {t:Ty}{v:V}{d:PyData}{bs:List Addr}(h2:a_ K H C t v d bs){vs:List V}{ds:List PyData}{as:List Addr}(h:bq K H C t vs ds as):(∀ p∈as,p∉bs)->bq K H C t (vs++[v]) (ds++[d]) (as++bs):=
 bq.ind (P:=fun vs ds as=>(∀ p∈as,p∉bs)->bq K H C t (vs++[v]) (ds++[d]) (as++bs)) (fun _=>by
  have:=bq.cons h2 (.nil (K:=K) (H:=H) (C:=C) (t:=t)) (fun p _ z=>absurd z List.not_mem_nil)
  rw[List.append_nil] at this
  exact this) (fun h r n ih q=>by
  rw[List.append_assoc]
  exact .cons h (ih fun p hp=>q p (List.mem_append_right _ hp)) fun p hp z=>(List.mem_append.mp z).elim (n p hp) (q p (List.mem_append_left _ hp))) h
theorem aE.hideN (E:aE K O0 hid H0 σ H ρ [])(s:aj H H'){bs:List Addr}{hid':Addr->Prop}(hb:∀ b,hid' b->hid b∨b∈bs)(hf:∀ p∈bs,H p=none)(hl:∀ b,hid' b->∃ vs:bP,H' b=some vs.ho):aE K O0 hid' H0 σ H' ρ []:=by
 have E1:=E.mono s
 refine⟨E1.len,E1.base,fun i d hi q=>?_,⟨fun _=>[],fun i t d h=>(by cases h),fun i j p _ h=>(by cases h),fun i p h=>(by cases h)⟩,fun l h=>(by cases h),hl,fun _=>rfl⟩
 obtain⟨v,h1,h2⟩:=E.val i d hi q
 refine⟨v,h1,h2.mono fun b o e=>?_⟩
 rw[gF] at e
 by_cases hh:hid b
 ·rw[de hh] at e;cases e
 ·rw[bb hh] at e
  rw[bb fun z=>?_]
  ·exact s _ _ e
  ·rcases z with z | z
   ·rcases hb b z with z | z
    ·exact hh z
    ·rw[hf b z] at e;cases e
   ·cases z
inductive kW (K:PySem.W.Frag)(hid:Addr->Prop)(H H1:Hp)(D:Addr)(T:Ty)(S:PyData->aa->Option aa)(ft:aa->Option Bool)(fe:aa->Option PyData)(ds out:List PyData)(i m:Nat)(τ:St)(H2:Hp):Prop
 | mk (ρ2:aa) (ys:List V) (done rest left:List PyData) (as:List Addr) (hM:fg ds i m left) (E2:aE K O0 (uni hid (D::as)) H τ H2 ρ2 []) (s2:aj H1 H2) (hy:H2 D=some (.lst ys)) (hd:bq K H2 (ah H2 (uni hid (D::as))) T ys done as) (hn:∀ p∈as,H1 p=none∧p≠D) (hr:eH S ft fe left ρ2=some rest) (ho:out=done++rest) (hl:done.length≤i):kW K hid H H1 D T S ft fe ds out i m τ H2
theorem Cf {T:Ty}{fi:aa->Option (List PyData)}{S:PyData->aa->Option aa}{ft:aa->Option Bool}{fe:aa->Option PyData}{k:Nat}{ix:List Nat}(h0:O.s=[]):∀ σ H Q,jK K O (.lst T) (fun ρ=>(cM S ft fe (fi ρ) (frees k ix ρ)).map .list) σ H Q->mm (tE K O fi) (tG K O0 S) (tT K O0 ft) (jK K O0 T fe) (gc k ix) σ H Q:=fun σ H Q zpat=>by
 obtain⟨hid,H0,ρ,ow,out',E,hf',q⟩:=zpat
 obtain⟨out,hf,rfl⟩:=map_some hf'
 obtain rfl:ow=[]:=E.emp h0
 obtain⟨ds,h1,h2⟩:=bind_some hf
 split at h2
 case isFalse=>cases h2
 rename_i hlen
 have hz:ds.length≤1000:=of_decide_eq_true hlen
 clear hf hf' hlen
 refine⟨hid,H0,ρ,[],ds,E,h1,fun J H1 s1 G D hD=>?_⟩
 clear h1
 have hDH:H D=none:=s1.free hD
 refine⟨kW K hid H H1 D T S ft fe ds out,⟨ds.length,.mk (frees k ix ρ) [] [] out ds [] (.start ds) ?_ (bK hD) bC .nil (fun p hp=>absurd hp List.not_mem_nil) h2 rfl (Nat.le_refl _)⟩,fun i m τ H2 zp=>?_⟩
 ·refine wA E (s1.trans (bK hD)) (ju (s1.trans (bK hD)) hDH fun b z=>by rcases z with z | z;exact .inl z;exact .inr (by simpa using z)) (fun b z=>?_) k ix
  rcases z with z | z
  ·obtain⟨vs,e⟩:=E.ishL b z
   exact⟨vs,(s1.trans (bK hD)) _ _ e⟩
  ·have z:b=D:=by simpa using z
   rw[z,bC]
   exact⟨.l _,rfl⟩
 ·obtain⟨ρ2,ys,done,rest,left,as,hM,E2,s2,hy,hd,hnew,hr,ho,hdl⟩:=zp
  have into:aj (ah H1 hid) (ah H2 (uni hid (D::as))):=fun b o e=>by
   by_cases hh:hid b
   ·rw[de hh] at e;cases e
   ·rw[bb hh] at e
    rw[bb fun z=>?_]
    ·exact s2 _ _ e
    ·rcases z with z | z
     ·exact hh z
     ·rcases List.mem_cons.mp z with z | z
      ·rw[z,hD] at e;cases e
      ·rw[(hnew b z).1] at e;cases e
  have keep:aj (ah H1 hid) H2:=into.trans (bA _ _)
  cases left with
  | nil=>
   obtain rfl:=hM.fin
   rw[eH] at hr
   obtain rfl:=Option.some.inj hr
   rw[List.append_nil] at ho
   subst ho
   refine .inl ⟨G.stop H2 keep,q (.ref D) (D::as) H2 (s1.trans s2) (fun p hp=>?_) ?_⟩
   ·rcases List.mem_cons.mp hp with z | z
    ·rw[z];exact hDH
    ·exact s1.free (hnew p z).1
   ·rw[List.append_nil]
    exact .lst hy hd fun z=>(hnew D z).2 rfl
  | cons d r=>
   obtain⟨hlt,hdi,m',hm',hM'⟩:=hM.cut
   rw[eH] at hr
   obtain⟨ρ3,g1,hr⟩:=bind_some hr
   obtain⟨c,g2,hr⟩:=bind_some hr
   refine .inr ⟨G.go H2 i keep hlt,kW K hid H H1 D T S ft fe ds out (i+1) m',fun τ' H' z=>⟨m',hm',z⟩,fun x H3 y=>?_⟩
   obtain⟨s23,Dx⟩:=G.step into (fun p hp z=>E2.fresh hp (.inl z)) hdi y
   rw[← gF (uni hid (D::as))] at Dx
   refine⟨uni hid (D::as),H,ρ2,[],d,ρ3,E2.mono s23,Dx,g1,fun τ3 E3=>⟨uni hid (D::as),H,ρ3,[],c,E3,g2,fun H5 s5=>?_⟩⟩
   have sA:aj H2 H5:=s23.trans s5
   cases c with
   | false=>
    dsimp only
    rw[if_neg Bool.false_ne_true] at hr ⊢
    exact kW.mk ρ3 ys done rest r as hM' (E3.mono s5) (s2.trans sA) (sA _ _ hy) (hd.mono (aY sA _) (fun p _ o e=>sA _ _ e)) (hnew) (hr) (ho) (Nat.le_succ_of_le hdl)
   | true=>
    dsimp only
    rw[if_pos rfl] at hr ⊢
    obtain⟨yv,g3,hr⟩:=bind_some hr
    obtain⟨rest2,g4,rfl⟩:=map_some hr
    refine⟨uni hid (D::as),H,ρ3,[],yv,E3.mono s5,g3,fun y bs H6 s6 hbs Dy=>?_⟩
    have sB:aj H2 H6:=sA.trans s6
    have bD:∀ p∈bs,p≠D:=fun p hp z=>by
     have e1:=hbs p hp
     rw[z,sA _ _ hy] at e1;cases e1
    have b1:∀ p∈bs,H1 p=none:=fun p hp=>by
     cases e:H1 p with
     | none=>rfl
     | some o=>have e1:=hbs p hp;rw[sA _ _ (s2 _ _ e)] at e1;cases e1
    have abs:∀ p∈as,p∉bs:=fun p hp z=>by
     obtain⟨vs,e⟩:=hd.lists p hp
     have e1:=hbs p z
     rw[sA _ _ e] at e1;cases e1
    have hmem:∀ b,b∈D::(as++bs)↔b=D∨b∈as∨b∈bs:=fun b=>by simp
    have hlis:∀ b,uni hid (D::(as++bs)) b->∃ vs:bP,upd H6 D (.lst (ys++[y])) b=some vs.ho:=fun b z=>by
     by_cases hbd:b=D
     ·rw[hbd,bC];exact⟨.l _,rfl⟩
     ·rw[aD hbd]
      rcases z with z | z
      ·obtain⟨vs,e⟩:=E2.ishL b (.inl z)
       exact⟨vs,sB _ _ e⟩
      ·rcases (hmem b).mp z with z | z | z
       ·exact absurd z hbd
       ·obtain⟨vs,e⟩:=hd.lists b z
        exact⟨vs,sB _ _ e⟩
       ·exact Dy.lists b z
    have cB:aj (ah H2 (uni hid (D::as))) (ah (upd H6 D (.lst (ys++[y]))) (uni hid (D::(as++bs)))):=fun b o e=>by
     by_cases hh:uni hid (D::as) b
     ·rw[de hh] at e;cases e
     ·rw[bb hh] at e
      have hbd:b≠D:=fun z=>hh (.inr (by rw[z];exact List.mem_cons_self))
      rw[bb fun z=>?_,aD hbd]
      ·exact sB _ _ e
      ·rcases z with z | z
       ·exact hh (.inl z)
       ·rcases (hmem b).mp z with z | z | z
        ·exact hbd z
        ·exact hh (.inr (List.mem_cons_of_mem _ z))
        ·have e1:=hbs b z;rw[sA _ _ e] at e1;cases e1
    have cE:aj (ah H6 (uni (uni hid (D::as)) (bs++[]))) (ah (upd H6 D (.lst (ys++[y]))) (uni hid (D::(as++bs)))):=fun b o e=>by
     by_cases hh:uni (uni hid (D::as)) (bs++[]) b
     ·rw[de hh] at e;cases e
     ·rw[bb hh] at e
      have hbd:b≠D:=fun z=>hh (.inl (.inr (by rw[z];exact List.mem_cons_self)))
      rw[bb fun z=>?_,aD hbd]
      ·exact e
      ·rcases z with z | z
       ·exact hh (.inl (.inl z))
       ·rcases (hmem b).mp z with z | z | z
        ·exact hbd z
        ·exact hh (.inl (.inr (List.mem_cons_of_mem _ z)))
        ·exact hh (.inr (by rw[List.append_nil];exact z))
    refine⟨ys,sB _ _ hy,by rw[hd.length];exact Nat.lt_of_le_of_lt hdl (Nat.lt_of_lt_of_le hlt (Nat.le_trans hz (by decide))),kW.mk ρ3 (ys++[y]) (done++[yv]) rest2 r (as++bs) hM' ?_ (fun b o e=>?_) (bC) ?_ (fun p hp=>?_) (g4) ?_ ?_⟩
    ·have E6:aE K O0 (uni hid (D::(as++bs))) H τ3 H6 ρ3 []:=aE.hideN (hid:=uni hid (D::as)) (bs:=bs) (E3.mono s5) s6 (fun b z=>by
      rcases z with z | z
      ·exact .inl (.inl z)
      ·rcases (hmem b).mp z with z | z | z
       ·exact .inl (.inr (by rw[z];exact List.mem_cons_self))
       ·exact .inl (.inr (List.mem_cons_of_mem _ z))
       ·exact .inr z) hbs fun b z=>by
      by_cases hbd:b=D
      ·exact⟨.l ys,by rw[hbd];exact sB _ _ hy⟩
      ·obtain⟨vs,e⟩:=hlis b z
       rw[aD hbd] at e
       exact⟨vs,e⟩
     exact E6.updHid (.inr List.mem_cons_self) hDH
    ·rw[aD (bV e hD)]
     exact sB b o (s2 b o e)
    ·exact bq.snoc (Dy.mono cE fun p hp o e=>by rw[aD (bD p hp)];exact e) (hd.mono cB fun p hp o e=>by rw[aD (hnew p hp).2];exact sB _ _ e) abs
    ·rcases List.mem_append.mp hp with hp | hp
     ·exact hnew p hp
     ·exact⟨b1 p hp,bD p hp⟩
    ·rw[ho,List.append_assoc];rfl
    ·rw[List.length_append]
     exact Nat.succ_le_succ hdl
end
theorem C4 {X:Cx}{O:Ow}{T:Ty}{elt tg iter:Expr}{ifs:List Expr}{scope:Scope}{pos:Pos}{fi:aa->Option (List PyData)}{S:PyData->aa->Option aa}{ft:aa->Option Bool}{fe:aa->Option PyData}{k:Nat}{N:List Str}{ix:List Nat}(sc:Scope)(hsc:X.env.scope=sc)(C:gG sc X.N scope k N ix)
  (hx:X.xe=fun _ _=>False) (hc:X.calm=true) (hi:lq X O tg iter fi)
  (hg:∀ cl C s3 H3 fp pins,gj (cu X N scope cl C s3 H3 fp pins) O0 tg S) (ht:∀ cl C s3 H3 fp pins,ll (cu X N scope cl C s3 H3 fp pins) ifs ft) (he:∀ cl C s3 H3 fp pins,dJ (cu X N scope cl C s3 H3 fp pins) O0 T elt fe)
  (hs:∀ x,foldedSetIterable iter X.env x=pure x:=by intro _;rfl) (h0:O.s=[]:=by rfl) :
  dJ X O (.lst T) (.ListComp elt [⟨tg,iter,ifs,0⟩] scope pos) (fun ρ=>(cM S ft fe (fi ρ) (frees k ix ρ)).map .list):=by
 exact (yG (g:=tG X.K O0 S) (tc:=tT X.K O0 ft) (te:=jK X.K O0 T fe) sc hsc C hx hc hi hg ht he hs).imp (Cf h0)
theorem Iv {X:Cx}{O:Ow}{T:Ty}{j:Nat}{pos:Pos}:m8 X O [] T (.Constant .none j pos) (fun _=>some .none):=dJ.rt (yL.imp fun σ H Q zpat=>by
 obtain⟨hid,H0,ρ,ow,d,E,hf,k⟩:=zpat
 obtain rfl:=Option.some.inj hf
 exact k .non [] H (aj.refl H) (fun p hp=>by cases hp) .non)
section
variable {K:PySem.W.Frag}{O:Ow}{hid:Addr->Prop}{H0 H H':Hp}{σ:St}{ρ:aa}{ow:List Addr}
end
section
variable {X:Cx}{O:Ow}{i:Nat}{pos:Pos}
end
end L2
namespace L2
variable [Reg]
inductive FnAt (K:PySem.W.Frag)(x:Str)(st:Stmt):Prop
 | mk (f:Addr) (fd:FuncData) (a:PySem.W.nsIn K mainGlobals x=some (some (.ref f))) (F:aZ K x x st f fd):FnAt K x st
section
variable {P:Program}{w:World}{K:PySem.W.Frag}{h:Heap}{mg:Str->Option Value}{base:Heap}{x:Str}{st:Stmt}{k:Nat}{ps:List Str}{T:Ty}
theorem FnAt.ok {F:List PyData->Option PyData}(d:FnAt K x st)(X:K.In h)(G:h.Ns mainGlobals mg)
  (hb:∀ (kV doc pm:Value) (an:Option Addr) (cdv ct:Value) (us:List Value),us.length=ps.length->bindArgs (PySem.W.fnOf x x (iP st) (cW st) (aL st) .none kV doc pm an cdv ct) ⟨us,[]⟩=pure (ps.zip us))
  (ok:∀ f fd,PySem.W.nsIn K mainGlobals x=some (some (.ref f))->aZ K x x st f fd->aS P w K mg base bc k f fd ps (bB K T F)):aW P w K mg base k x ps T F:=by
 cases d with
 | mk f fd a D=>exact⟨f,fd,ok f fd a D,PySem.W.mg_of X G a,D.kp,D.binds hb,a⟩
theorem FnAt.law {F:List PyData->Option PyData}{fa:Addr}{v0:Str}(d:FnAt K x st)(X:K.In h)(G:h.Ns mainGlobals mg)(hfa:mg x=some (.ref fa))
  (hb:∀ (kV doc pm:Value) (an:Option Addr) (cdv ct:Value) (s:Shared) (v:Value),BindsTo s (PySem.W.fnOf x x (iP st) (cW st) (aL st) .none kV doc pm an cdv ct) ⟨[v],[]⟩ [(v0,v)])
  (ok:∀ base f fd,aZ K x x st f fd->aS P w K mg base bc k f fd ps (bB K T F)) :
  ∃ fd:FuncData,(∀ (s:Shared) (v:Value),BindsTo s fd ⟨[v],[]⟩ [(v0,v)])∧∀ base:Heap,K.In base->base.Ns mainGlobals mg->aS P w K mg base bc k fa fd ps (bB K T F):=by
 cases d with
 | mk f fd a D=>
  cases hfa.symm.trans (PySem.W.mg_of X G a)
  refine⟨fd,?_,fun base _ _=>ok base _ fd D⟩
  obtain⟨oc,od,kV,doc,pm,an,cdv,ct,osl,e,_,_⟩:=D.ex
  subst e
  exact hb kV doc pm an cdv ct
end
def yf (K:PySem.W.Frag)(x:Str):Bool:=match PySem.W.nsIn K mainGlobals x with
 | some none=>true
 | _=>false
def yg (K:PySem.W.Frag)(xs:List Str):Bool:=xs.all (yf K)
theorem fF {K:PySem.W.Frag}{h:Heap}{mg:Str->Option Value}{xs:List Str}{x:Str}(X:K.In h)(G:h.Ns mainGlobals mg)(q:yg K xs=true)(i:Nat)(hi:xs[i]?=some x):mg x=none:=by
 have h1:=List.all_eq_true.mp q x (List.mem_of_getElem? hi)
 refine PySem.W.mg_none_of X G ?_
 unfold yf at h1
 generalize PySem.W.nsIn K mainGlobals x=o at h1 ⊢
 cases o with
 | none=>exact L2.dF h1
 | some v=>cases v with
  | none=>rfl
  | some v=>exact L2.dF h1
end L2
namespace L2
def bd (a:Int)(n:Nat):Prop:=a.natAbs<2 ^ n
theorem bd.mono {a:Int}{m n:Nat}(h:bd a m)(hn:m≤n):bd a n:=Nat.lt_of_lt_of_le h (Nat.pow_le_pow_right (by decide) hn)
theorem bd.mul {a b:Int}{m n:Nat}(h:bd a m)(h':bd b n):bd (a*b) (m+n):=by
 unfold bd at *
 rw[Int.natAbs_mul,Nat.pow_add]
 exact Nat.mul_lt_mul'' h h'
theorem bd.add {a b:Int}{n:Nat}(h:bd a n)(h':bd b n):bd (a+b) (n+1):=Nat.lt_of_le_of_lt (Int.natAbs_add_le a b) (by rw[Nat.pow_succ,Nat.mul_two];exact Nat.add_lt_add h h')
theorem bd.sub {a b:Int}{n:Nat}(h:bd a n)(h':bd b n):bd (a - b) (n+1):=by
 rw[Int.sub_eq_add_neg]
 exact bd.add h (show (-b).natAbs<2 ^ n from by rw[Int.natAbs_neg];exact h')
theorem bd.neg {a:Int}{n:Nat}(h:bd a n):bd (-a) n:=show (-a).natAbs<2 ^ n from by rw[Int.natAbs_neg];exact h
theorem bd.big {a:Int}{n:Nat}(h:bd a n)(hn:n≤1000):fX a=true:=by
 unfold fX L2.big
 exact decide_eq_true (h.mono hn)
theorem bd.absI {a:Int}{n:Nat}(h:bd a n):bd (if a<0 then -a else a) n:=by split;exact h.neg;exact h
theorem bd.of_le {a b:Int}{n:Nat}(h:bd b n)(h0:0≤a)(h1:a≤b):bd a n:=Nat.lt_of_le_of_lt (Int.ofNat_le.mp (by rw[Int.natAbs_of_nonneg h0,Int.natAbs_of_nonneg (Int.le_trans h0 h1)];exact h1)) h
theorem nP (d:PyData)(r:List PyData):af (some d) (some r)=some (d::r):=rfl
theorem dv (b:Bool):aw (some (.bool b))=some b:=rfl
theorem nO {α:Type}(a b:Option α):aA (some true) a b=a:=rfl
theorem vU {α:Type}(a b:Option α):aA (some false) a b=b:=rfl
theorem u6 (y:Option Bool):cU (some true) y=y:=rfl
theorem u5 (y:Option Bool):cU (some false) y=some false:=rfl
theorem yy (y:Option Bool):dr (some true) y=some true:=rfl
theorem yx (y:Option Bool):dr (some false) y=y:=rfl
theorem u9 (y:Option PyData):gu (some (.bool true)) y=y:=rfl
theorem u7 (y:Option PyData):gu (some (.bool false)) y=some (.bool false):=rfl
theorem yA (y:Option PyData):gD (some (.bool true)) y=some (.bool true):=rfl
theorem yz (y:Option PyData):gD (some (.bool false)) y=y:=rfl
theorem yk (b:Bool):Fg (some (.bool b))=some (.bool (!b)):=rfl
theorem zB (i:Nat)(ρ:aa)(d:PyData):ax i ρ (some d)=some (.nx (ρ.set i (some d))):=rfl
theorem zA (i:Nat)(ρ:aa)(d:List PyData):kG i ρ (some d)=some (.nx (ρ.set i (some (.list d)))):=rfl
theorem v5 (ρ:aa)(d:PyData):eJ ρ (some d)=some (.nx ρ):=rfl
theorem wy (S:PyData->aa->Option aa)(F:aa->Option aq)(ds:List PyData)(ρ:aa):ej S F (some ds) ρ=cA S F ds ρ:=rfl
theorem iO {S:PyData->aa->Option aa}{ft:aa->Option Bool}{fe:aa->Option PyData}{ds:List PyData}{ρ:aa}(h:ds.length≤1000):cM S ft fe (some ds) ρ=eH S ft fe ds ρ:=by
 unfold cM
 rw[Option.bind_some,if_pos (decide_eq_true h)]
theorem vh (S:PyData->aa->Option aa)(ρ:aa)(d:PyData):lA S ρ (some d)=(S d ρ).map .nx:=rfl
def tK (o:Option aq)(G:aa->Option aq):Option aq:=o.bind fun o=>match o with
 | .nx ρ'=>G ρ'
 | .rt d=>some (.rt d)
 | .bk ρ'=>some (.bk ρ')
 | .ct ρ'=>some (.ct ρ')
theorem zy (F G:aa->Option aq)(ρ:aa):av F G ρ=tK (F ρ) G:=rfl
theorem z7 (ρ:aa)(G:aa->Option aq):tK (some (.nx ρ)) G=G ρ:=rfl
theorem z8 (d:PyData)(G:aa->Option aq):tK (some (.rt d)) G=some (.rt d):=rfl
theorem zG {f:List PyData->PyData}(a b:PyData):cP f (some [a,b])=some (f [a,b]):=rfl
theorem zH:aC (some [])=some []:=rfl
theorem zI (a:PyData):aC (some [a])=some [a]:=rfl
theorem zJ (a b:PyData):aC (some [a,b])=some [a,b]:=rfl
theorem zK (a b c:PyData):aC (some [a,b,c])=some [a,b,c]:=rfl
theorem zL (a b c d:PyData):aC (some [a,b,c,d])=some [a,b,c,d]:=rfl
theorem xJ (ds:List PyData):cw [.list ds]=some (.int ds.length):=rfl
theorem xK (ds:List PyData):cw [.tuple ds]=some (.int ds.length):=rfl
theorem oj (ds:List PyData):br (.list ds)=some ds:=rfl
theorem Aa (ds:List PyData):J3 (.tuple ds)=some ds:=rfl
theorem zw (ds:List PyData):o4 (.list ds)=some ds:=rfl
theorem yC (d:PyData):i3 (some (.rt d))=some d:=rfl
theorem yB (ρ:aa):i3 (some (.nx ρ))=some .none:=rfl
theorem rA {α:Type}{c:Prop}[Decidable c](a b:Option α):aA (some (decide c)) a b=if c then a else b:=by
 by_cases h:c
 ·rw[decide_eq_true h,if_pos h];rfl
 ·rw[decide_eq_false h,if_neg h];rfl
theorem bh (x y:PyData)(g:PyData->PyData->Option PyData):ae (some x) (some y) g=g x y:=rfl
theorem di {a b:Int}(ha:fX a=true)(hb:fX b=true):bT (.int a) (.int b)=some (.int (a*b)):=by
 simp[bT,hZ,dh,ha,hb]
theorem cY {a b:Int}(h0:0<b)(hb:fX b=true):aU (.int a) (.int b)=some (.int (a / b)):=by
 have:b≠0:=by omega
 simp[aU,hZ,dh,hb,this,Int.fdiv_eq_ediv_of_nonneg a (by omega:0≤b)]
theorem b8 {a b:Int}(h0:0<b):aM (.int a) (.int b)=some (.int (a % b)):=by
 have:b≠0:=by omega
 simp[aM,hZ,dh,this,Int.fmod_eq_emod_of_nonneg a (by omega:0≤b)]
theorem nF (a b:Int):bu (.int a) (.int b)=some (.int (a+b)):=rfl
theorem o8 (a b:Int):dj (.int a) (.int b)=some (.int (a - b)):=rfl
theorem f7 (a b:Int):bx (.int a) (.int b)=some (.bool (decide (a<b))):=rfl
theorem xG (a b:Int):lT (.int a) (.int b)=some (.bool (decide (a≤b))):=rfl
theorem rj (a b:Int):km (.int a) (.int b)=some (.bool (decide (b<a))):=rfl
theorem kj (a b:Int):eu (.int a) (.int b)=some (.bool (decide (b≤a))):=rfl
theorem zF (a:Int):SeqAt.shaped (.int a)=true:=by simp[SeqAt.shaped,PyData.canLay0,PyData.depth]
theorem g9 (a b:Int):aF (.int a) (.int b)=some (.bool (a==b)):=by simp[aF,zF,PyData.eqv]
theorem rW (a b:Int):cO (.int a) (.int b)=some (.bool (!(a==b))):=by simp[cO,zF,PyData.eqv]
theorem G_:bI (.int 10) (.int 7)=some (.int (10 ^ 7)):=rfl
theorem Ha:bI (.int 10) (.int 9)=some (.int (10 ^ 9)):=rfl
theorem G4:bI (.int 10) (.int 18)=some (.int (10 ^ 18)):=rfl
theorem yR:bI (.int 10) (.int 20)=some (.int (10 ^ 20)):=rfl
theorem yS:bI (.int 10) (.int 21)=some (.int (10 ^ 21)):=rfl
theorem G6:bI (.int 10) (.int 31)=some (.int (10 ^ 31)):=rfl
theorem G7:bI (.int 10) (.int 32)=some (.int (10 ^ 32)):=rfl
theorem G8:bI (.int 10) (.int 40)=some (.int (10 ^ 40)):=rfl
theorem G9:bI (.int 10) (.int 60)=some (.int (10 ^ 60)):=rfl
theorem xN (i:Int):lf (.int i)=true:=rfl
theorem nZ {α:Type}{p:α->Bool}{x:α}(h:p x=true):(some x).filter p=some x:=by rw[Option.filter_some,if_pos h]
def encP (p:Int×Int):PyData:=.tuple [.int p.1,.int p.2]
def aX (ps:List (Int×Int)):PyData:=.list (ps.map encP)
theorem xm (a b:PyData):ay (.tuple [a,b]) (.int 0)=some a:=rfl
theorem xq (a b:PyData):ay (.tuple [a,b]) (.int 1)=some b:=rfl
theorem vB:∀ ps:List (Int×Int),PyData.canLayAll0 (ps.map encP)=true∧PyData.depthAll (ps.map encP)≤1
 | []=>by simp[PyData.canLayAll0,PyData.depthAll]
 | p::r=>by
  obtain⟨h1,h2⟩:=vB r
  simp[PyData.canLayAll0,PyData.depthAll,encP,PyData.canLay0,PyData.depth,h1]
  exact Nat.max_le.mpr ⟨Nat.le_refl _,h2⟩
theorem zE (ps:List (Int×Int)):SeqAt.shaped (aX ps)=true:=by
 obtain⟨h1,h2⟩:=vB ps
 simp[SeqAt.shaped,aX,PyData.canLay0,PyData.depth,h1]
 omega
theorem qJ {α:Type}(x:α)(r:List α):atI (x::r) 0=some x:=by
 have:atI (x::r) ((0:Nat):Int)=some x:=ka rfl
 exact this
theorem Bm {α:Type}{xs:List α}{k:Int}{x:α}(h0:0≤k)(h:xs[k.toNat]?=some x):atI xs k=some x:=by
 have:=ka h
 rwa [Int.toNat_of_nonneg h0] at this
theorem vE {ns:List Int}{k:Int}(h0:0≤k)(h:k<ns.length):ay (.list (ns.map .int)) (.int k)=some (.int (ns.getD k.toNat 0)):=by
 rw[ay]
 have hk:k.toNat<ns.length:=by omega
 refine Bm h0 ?_
 rw[List.getElem?_map,List.getElem?_eq_getElem hk]
 simp[List.getD,hk]
theorem Ec (a b c d:PyData){j:Int}(h0:0≤j)(h1:j<4):∃ x,(x=a∨x=b∨x=c∨x=d)∧ay (.list [a,b,c,d]) (.int j)=some x:=by
 obtain⟨n,rfl⟩:=Int.eq_ofNat_of_zero_le h0
 have h1:n<4:=Int.ofNat_lt.mp h1
 rcases n with _ | _ | _ | _ | n
 ·exact⟨a,.inl rfl,rfl⟩
 ·exact⟨b,.inr (.inl rfl),rfl⟩
 ·exact⟨c,.inr (.inr (.inl rfl)),rfl⟩
 ·exact⟨d,.inr (.inr (.inr rfl)),rfl⟩
 ·exact absurd h1 (Nat.not_lt.mpr (Nat.le_add_left 4 n))
theorem qI {i:Nat}{ρ:aa}{ds:List PyData}{d:PyData}(h:ρ[i]?=some (some (.list ds)))(hl:ds.length<1000):iJ i ρ d=some (.nx (ρ.set i (some (.list (ds++[d]))))):=by
 unfold iJ
 rw[h]
 simp only[Option.join_some,Option.bind_some,br]
 rw[if_pos (decide_eq_true hl)]
theorem zj {n:Int}(h0:0≤n)(h1:n<1000):i5 [.int n]=some (dR 0 n.toNat):=by
 exact (show (if decide (n.natAbs<2 ^ 61)=true then some (dR 0 n.toNat) else none)=_ from if_pos (decide_eq_true (by omega)))
theorem Ig {n i:Nat}{d:PyData}(h:(dR 0 n)[i]?=some d):i<n∧d=.int (i:Nat):=by
 unfold dR at h
 rw[List.getElem?_map] at h
 cases e:(List.range n)[i]? with
 | none=>rw[e] at h;cases h
 | some j=>
  rw[e] at h
  obtain⟨h1,h2⟩:=List.getElem?_eq_some_iff.mp e
  have h3:i=j:=by simpa using h2
  subst h3
  have h4:PyData.int (0+(i:Nat))=d:=Option.some.inj h
  exact⟨by simpa using h1,by rw[← h4,Int.zero_add]⟩
theorem Ih (lo:Int)(n:Nat):(dR lo n).length=n:=by simp[dR]
theorem q0 {S:PyData->aa->Option aa}{F:aa->Option aq}{d:PyData}{r:List PyData}{ρ ρ1 ρ2:aa}(h1:S d ρ=some ρ1)(h2:F ρ1=some (.nx ρ2)):cA S F (d::r) ρ=cA S F r ρ2:=by
 rw[cA,h1,Option.bind_some,h2,Option.bind_some]
theorem n5 {S:PyData->aa->Option aa}{F:aa->Option aq}(I:Nat->aa->Prop):∀ (ds:List PyData) (k:Nat) (ρ:aa),I k ρ ->
  (∀ (i:Nat) (d:PyData) (ρ:aa),ds[i]?=some d->I (k+i) ρ->∃ ρ1 ρ2,S d ρ=some ρ1∧F ρ1=some (.nx ρ2)∧I (k+i+1) ρ2)->∃ ρ',cA S F ds ρ=some (.nx ρ')∧I (k+ds.length) ρ'
 | [],k,ρ,h,_=>⟨ρ,rfl,h⟩
 | d::r,k,ρ,h,step=>by
  obtain⟨ρ1,ρ2,h1,h2,h3⟩:=step 0 d ρ rfl h
  obtain⟨ρ',h4,h5⟩:=n5 I r (k+1) ρ2 h3 fun i d' ρ' hd hi=>by
   have:=step (i+1) d' ρ' (by simpa using hd) (by rw[show k+(i+1)=k+1+i by omega];exact hi)
   rwa [show k+(i+1)+1=k+1+i+1 by omega] at this
  refine⟨ρ',?_,?_⟩
  ·rw[cA,h1,Option.bind_some,h2,Option.bind_some]
   exact h4
  ·rw[List.length_cons,show k+(r.length+1)=k+1+r.length by omega]
   exact h5
theorem iN {α β:Type}{S:PyData->aa->Option aa}{fe:aa->Option PyData}(ea:α->PyData)(eb:β->PyData)(g:α->β)(R:aa->Prop)(ok:α->Prop)
  (hS:∀ x ρ,ok x->R ρ->∃ ρ1,S (ea x) ρ=some ρ1∧R ρ1∧fe ρ1=some (eb (g x))):∀ (xs:List α) (ρ:aa),R ρ->(∀ x∈xs,ok x)->eH S (fun _=>some true) fe (xs.map ea) ρ=some ((xs.map g).map eb)
 | [],ρ,_,_=>rfl
 | x::r,ρ,h,ho=>by
  obtain⟨ρ1,h1,h2,h3⟩:=hS x ρ (ho x List.mem_cons_self) h
  rw[List.map_cons,eH,h1]
  simp only[Option.bind_some,if_true,h3]
  rw[iN ea eb g R ok hS r ρ1 h2 fun y hy=>ho y (List.mem_cons_of_mem _ hy)]
  rfl
def e9 (t b:Int):Int×Int:=(t / (Int.gcd t b:Int),b / (Int.gcd t b:Int))
structure ux (p:Int×Int):Prop where
 pos:0<p.2
 co:Int.gcd p.1 p.2=1
theorem lL {t b:Int}(h:0<b):(0:Int)<(Int.gcd t b:Int):=by
 have:0<Int.gcd t b:=Int.gcd_pos_of_ne_zero_right t (by omega)
 omega
theorem HQ {t b:Int}(h:0<b):ux (e9 t b):=by
 have hg:=lL (t:=t) h
 have h1:(Int.gcd t b:Int) ∣ b:=Int.gcd_dvd_right ..
 refine⟨Int.ediv_pos_of_pos_of_dvd h (by omega) h1,?_⟩
 exact Int.gcd_ediv_gcd_ediv_gcd (by omega)
theorem HR {t b:Int}(ht:0≤t)(h:0<b):0≤(e9 t b).1:=Int.ediv_nonneg ht (by have:=lL (t:=t) h;omega)
theorem rT (a:Int){g:Int}(h:0<g):(a / g).natAbs≤a.natAbs:=by
 have h1:g*(a / g)≤a:=Int.mul_ediv_self_le (by omega)
 have h2:a<g*(a / g)+g:=Int.lt_mul_ediv_self_add h
 rcases Int.lt_or_le (a / g) 0 with hn | hn
 ·have:g*(a / g)≤1*(a / g):=Int.mul_le_mul_of_nonpos_right (by omega) (by omega)
  have h3:a<0:=by
   have:g*(a / g)≤g*(-1):=Int.mul_le_mul_of_nonneg_left (by omega) (by omega)
   omega
  -- a / g≥a since a<0
  have h4:a≤a / g:=by
   have:a / g≥a:=by
    have:=Int.le_ediv_of_mul_le h (show a*g≤a by
     have:a*g≤a*1:=Int.mul_le_mul_of_nonpos_left (by omega) (by omega)
     omega)
    omega
   omega
  omega
 ·have:1*(a / g)≤g*(a / g):=Int.mul_le_mul_of_nonneg_right (by omega) hn
  omega
theorem bd.red1 {t b:Int}{n:Nat}(ht:bd t n)(h:0<b):bd (e9 t b).1 n:=Nat.lt_of_le_of_lt (rT t (lL h)) ht
theorem bd.red2 {t b:Int}{n:Nat}(hb:bd b n)(h:0<b):bd (e9 t b).2 n:=Nat.lt_of_le_of_lt (rT b (lL h)) hb
theorem wH {a b:Int}(h:0<b):Int.gcd b (a % b)=Int.gcd a b:=by
 rw[Int.gcd_comm a b]
 conv=>rhs;rw[← Int.mul_ediv_add_emod a b,Int.add_comm]
 rw[Int.gcd_add_mul_left_right]
end L2
namespace L2
theorem J2 {i:Nat}{c:List Str}{H:aa->Option aq}{ρ ρ':aa}{x:PyData}(h:c.contains (lF x)=true)(hh:H (ρ.set i (some x))=some (.nx ρ')):kO i c H (some (.ex x ρ))=some (.nx (ρ'.set i none)):=by
 show (if c.contains (lF x)=true then (H (ρ.set i (some x))).map (aq.unset i) else none)=_
 rw[if_pos h,hh]
 rfl
def lP:Option Bool->Bool
 | some true=>true
 | _=>false
def lO:Option Bool->Bool
 | some false=>true
 | _=>false
theorem rp {x:Option Bool}(h:lP x=true):x=some true:=by
 unfold lP at h
 split at h
 ·rfl
 ·exact L2.dF h
theorem rn {x:Option Bool}(h:lO x=true):x=some false:=by
 unfold lO at h
 split at h
 ·rfl
 ·exact L2.dF h
theorem gq {a b:Bool}(h:(a&&b)=true):a=true∧b=true:=by
 rw[Bool.and_eq_true] at h
 exact h
end L2
namespace L2
variable [Reg]
section
variable {P:Program}{w:World}{K:PySem.W.Frag}{h:Heap}{mg:Str->Option Value}{base:Heap}{x:Str}{st:Stmt}{k:Nat}{ps:List Str}{T:Ty}
theorem FnAt.okX {F:List PyData->Option RX}(d:FnAt K x st)(X:K.In h)(G:h.Ns mainGlobals mg)
  (hb:∀ (kV doc pm:Value) (an:Option Addr) (cdv ct:Value) (us:List Value),us.length=ps.length->bindArgs (PySem.W.fnOf x x (iP st) (cW st) (aL st) .none kV doc pm an cdv ct) ⟨us,[]⟩=pure (ps.zip us))
  (ok:∀ f fd,PySem.W.nsIn K mainGlobals x=some (some (.ref f))->aZ K x x st f fd->aS P w K mg base (dy P w) k f fd ps (e_ K T F)):bW P w K mg base k x ps T F:=by
 cases d with
 | mk f fd a D=>exact⟨f,fd,ok f fd a D,PySem.W.mg_of X G a,D.kp,D.binds hb,a⟩
end
def sj:Option (Option Value)->Option Addr
 | some (some (.ref C))=>some C
 | _=>none
theorem HS {o:Option (Option Value)}{C:Addr}(h:sj o=some C):o=some (some (.ref C)):=by
 cases o with
 | none=>exact L2.aQ h
 | some v=>cases v with
  | none=>exact L2.aQ h
  | some v=>cases v with
   | ref a=>cases h;rfl
   | _=>exact L2.aQ h
def dP (K:PySem.W.Frag)(x:Str):Addr:=(sj (PySem.W.nsIn K mainGlobals x)).getD 0
def lN (K:PySem.W.Frag)(x:Str):Bool:=(sj (PySem.W.nsIn K mainGlobals x)).isSome
variable {K:PySem.W.Frag}{h:Heap}{mg:Str->Option Value}{exs:List Str}{x T:Str}
theorem lE {C:Addr}(e:PySem.W.nsIn K mainGlobals x=some (some (.ref C))):dP K x=C:=by unfold dP;rw[e];rfl
theorem wU (q:lN K x=true):PySem.W.nsIn K mainGlobals x=some (some (.ref (dP K x))):=by
 unfold lN at q
 obtain⟨C,e⟩:=Option.isSome_iff_exists.mp q
 have e2:=HS e
 rw[lE e2]
 exact e2
def zo (o:Option Bool)(b:Bool):Bool:=bif b then lP o else lO o
theorem IH {o:Option Bool}{b:Bool}(q:zo o b=true):o=some b:=by
 cases b with
 | true=>exact rp q
 | false=>exact rn q
def wW (K:PySem.W.Frag)(exs:List Str)(T:Str):Bool:=lN K T&&(exs.all (fun c=>iR K (dP K c)&&zo (PySem.W.kitOne K (.ref (dP K c)) (.ref (dP K T))) (kK c T))&&lO (PySem.W.kitOne K (.type "NoneType") (.ref (dP K T))))
def wX (K:PySem.W.Frag)(exs:List Str):Bool:=exs.all (fun c=>iR K (dP K c)&&lP (PySem.W.kitOne K (.ref (dP K c)) (.type "ValueError")))&&lO (PySem.W.kitOne K (.type "NoneType") (.type "ValueError"))
def wb (K:PySem.W.Frag)(exs:List Str)(D:Addr):Bool:=exs.all fun c=>lP (PySem.W.exmOne K (.ref (dP K c)) (.ref D))
theorem eL (X:K.In h)(G:h.Ns mainGlobals mg){Ts:List Str}(q:Ts.all (wW K exs)=true)(i:Nat)(hi:Ts[i]?=some T):IsT K mg exs T (dP K T):=by
 have q1:=List.all_eq_true.mp q T (List.mem_of_getElem? hi)
 obtain⟨a,q1⟩:=gq q1
 obtain⟨b,c⟩:=gq q1
 refine⟨PySem.W.mg_of X G (wU a),fun cls hc C hC=>?_,rn c⟩
 obtain⟨b1,b2⟩:=gq (List.all_eq_true.mp b cls hc)
 rw[lE hC] at b1 b2
 exact⟨b1,IH b2⟩
theorem D6 (q:wX K exs=true):mQ K exs:=by
 obtain⟨b,c⟩:=gq q
 refine⟨fun cls hc C hC=>?_,rn c⟩
 obtain⟨b1,b2⟩:=gq (List.all_eq_true.mp b cls hc)
 rw[lE hC] at b1 b2
 exact⟨b1,rp b2⟩
inductive kZ (K:PySem.W.Frag)(x:Str):Prop
 | mk (C:Addr) (ns:PySem.W.nsIn K mainGlobals x=some (some (.ref C))) (e:jm K C):kZ K x
theorem tS (X:K.In h)(G:h.Ns mainGlobals mg)(q:kZ K x):gZ K mg x (dP K x):=by
 obtain⟨C,ns,e⟩:=q
 rw[lE ns]
 exact⟨PySem.W.mg_of X G ns,ns,e⟩
theorem BW (X:K.In h)(G:h.Ns mainGlobals mg)(a:lN K x=true)(q:wb K exs (dP K x)=true):mg x=some (.ref (dP K x))∧um K exs (dP K x):=
 ⟨PySem.W.mg_of X G (wU a),fun cls hc C hC=>by
  have b:=List.all_eq_true.mp q cls hc
  rw[lE hC] at b
  exact rp b⟩
end L2
namespace L2
variable [Reg]
def qd (K:PySem.W.Frag)(a b:Addr):It:=
 ⟨fun i H=>∃ xs ys x y,aN K H a xs∧aN K H b ys∧xs[i]?=some x∧ys[i]?=some y,fun i H x H'=>∃ p v w,H p=none∧H'=upd H p (.tup [v,w])∧x=.ref p∧(∀ xs,aN K H a xs->xs[i]?=some v)∧∀ ys,aN K H b ys->ys[i]?=some w,
  fun i H=>∃ xs ys,aN K H a xs∧aN K H b ys∧(xs.length≤i∨ys.length≤i)⟩
theorem J8 {P:Program}{w:World}{K:PySem.W.Frag}{es:List Expr}{x1}{tpos:Pos}(l1 l2 z TI TO i1 i2:Addr)(ap:ZipApart z TI TO i1 i2 l1 l2):j7 P w K (.Tuple es x1 tpos) (qd K l1 l2) [z,TI,TO,i1,i2] z (fun i h=>IsZip h z TI TO Value.none∧IsPair h TI (.ref i1) (.ref i2)∧(∃ a b,IsPair h TO a b)∧h.IsListIter i1 l1 i∧h.IsListIter i2 l2 i) where
 mem:=by simp
 obj:=fun i h st b hb=>by
  obtain⟨h1,h2,⟨a,c,h3⟩,⟨o1,e1,_,d1⟩,⟨o2,e2,_,d2⟩⟩:=st
  simp only[List.mem_cons,List.not_mem_nil,or_false] at hb
  rcases hb with rfl | rfl | rfl | rfl | rfl
  ·exact⟨_,h1,fun v q=>by cases (show Data.fields _=Data.cell v from q)⟩
  ·exact⟨_,h2,fun v q=>by cases (show Data.seq _=Data.cell v from q)⟩
  ·exact⟨_,h3,fun v q=>by cases (show Data.seq _=Data.cell v from q)⟩
  ·exact⟨o1,e1,fun v q=>by rw[d1] at q;cases q⟩
  ·exact⟨o2,e2,fun v q=>by rw[d2] at q;cases q⟩
 keep:=fun i h h' st k=>by
  obtain⟨h1,h2,⟨a,c,h3⟩,h4,h5⟩:=st
  exact⟨k z (by simp) _ h1,k TI (by simp) _ h2,⟨a,c,k TO (by simp) _ h3⟩,h4.at fun o q=>k i1 (by simp) o q,h5.at fun o q=>k i2 (by simp) o q⟩
 item:=by
  intro X hP hw hK hc i pins s σ H E I hf st hg
  subst hP hw hK
  obtain⟨xs,ys,x,y,hq,hq',hx,hy⟩:=id hg
  obtain⟨its,rv,p,hz⟩:=I.list hq
  obtain⟨its',rv',p',hz'⟩:=I.list hq'
  obtain⟨u,hu,ru⟩:=rv.get hx
  obtain⟨u',hu',ru'⟩:=rv'.get hy
  obtain⟨h1,h2,⟨a,c,h3⟩,h4,h5⟩:=st
  have lt1:z<s.heap.objs.size:=Heap.lt_size h1
  have lt2:TI<s.heap.objs.size:=Heap.lt_size h2
  have lt3:TO<s.heap.objs.size:=Heap.lt_size h3
  have lt4:i1<s.heap.objs.size:=by obtain⟨o,q,_⟩:=id h4;exact Heap.lt_size q
  have lt5:i2<s.heap.objs.size:=by obtain⟨o,q,_⟩:=id h5;exact Heap.lt_size q
  refine wpAny_pyNext_zip_item ap h1 h2 h3 h4 h5 p.isList p'.isList (x:=u) (y:=u') (by simpa using hu) (by simpa using hu') fun h' ho hTO hi1 hi2 hT hsz hk=>?_
  refine⟨_,rfl,wpAny_letOwnedTupleGo_zip (s:={s with heap:=h' }) ho fun h3' he3 hs3=>?_⟩
  have hs3':Heap.SameBut z h' h3':=hs3
  have hT3:h3'.get? s.heap.objs.size=some {cls:=.type "tuple",data:=.seq #[u,u']}:=(hs3'.2 _ (Nat.ne_of_gt lt1)).trans hT
  have hk3:∀ b o,b∉[z,TO,i1,i2]->s.heap.get? b=some o->h3'.get? b=some o:=fun b o hb q=>by
   simp only[List.mem_cons,List.not_mem_nil,or_false,not_or] at hb
   exact (hs3'.2 b hb.1).trans (hk b o hb.1 hb.2.1 hb.2.2.1 hb.2.2.2 q)
  have hfr:H s.heap.objs.size=none:=I.hok.fresh (Nat.le_refl _)
  have inFp:∀ b,b∈[z,TO,i1,i2]->b∈[z,TI,TO,i1,i2]:=fun b hb=>by
   simp only[List.mem_cons,List.not_mem_nil,or_false] at hb ⊢
   rcases hb with h | h | h | h <;> simp[h]
  have nin:∀ b o,H b=some o->b∉[z,TO,i1,i2]:=fun b o q hb=>by
   have:=(hf b (inFp b hb)).1
   rw[this] at q;cases q
  have I3:Inv X pins σ (upd H s.heap.objs.size (.tup [x,y])) {s with heap:=h3' }:=by
   refine I.step (g':=s.gens) (d':=s.drawn) (ch:=[z,TO,i1,i2]) (fun b hb=>?_) (fun b o _ _ hb q _=>hk3 b o hb q) (fun b o _ _ hb q _=>⟨o.slots,hk3 b o hb q⟩) (fun b o hb q n=>?_) (fun b o hb q=>⟨o,hk3 b o hb q⟩)
    (fun b ys q=>by rw[aD (bV q hfr)];exact q) (fun b o ys q=>by rw[aD (bV q hfr)];exact q) (fun b ps q=>⟨#[],by rw[aD (bV q hfr),q];simp⟩) (fun b q=>by rw[aD (bV q hfr)];exact q) (fun m hm=>?_) (fun b o q=>?_) I.bare
   ·obtain⟨f0,f1,f2,f3,f4,f5⟩:=hf b (inFp b hb)
    exact⟨f3,f1,f4,f5⟩
   ·rw[aD (Nat.ne_of_lt (Heap.lt_size q))]
    exact n
   ·obtain⟨o,es',ep,ho',r⟩:=id hm
    refine ⟨o,es',ep,hk3 _ o (fun hb=>?_) ho',r⟩
    exact (hf _ (inFp _ hb)).2.1 rfl
   ·by_cases hb:b=s.heap.objs.size
    ·subst hb
     rw[bC] at q
     obtain rfl:=Option.some.inj q
     exact⟨(by show 2≤sizeLine;decide),[u,u'],.cons ru (.cons ru' .nil),⟨_,hT3,rfl,_,rfl⟩⟩
    ·rw[aD hb] at q
     refine (I.hok b o q).stay (fun c v hc q'=>hk3 c v ?_ q') (fun c q'=>by rw[aD (bV q' hfr)];exact q') (fun c ys q'=>by rw[aD (bV q' hfr)];exact q') fun c ob ys _ _ q'=>by rw[aD (bV q' hfr)];exact q'
     rcases hc with hc | hc
     ·rw[hc];exact nin b o q
     ·exact nin c _ hc
  have at3:∀ b,b≠z->∀ o,h'.get? b=some o->h3'.get? b=some o:=fun b hb o q=>(hs3'.2 b hb).trans q
  refine ⟨.ref s.heap.objs.size,_,I3,rfl,(⟨_,x,y,hfr,rfl,rfl,fun zs hy'=>by rw[I.list_inj hy' hq];exact hx,fun zs hy'=>by rw[I.list_inj hy' hq'];exact hy⟩),(⟨he3,hk3 TI _ (by simp[ap.TIz,ap.TITO,ap.TIi1,ap.TIi2]) h2,⟨u,u',at3 TO ap.TOz _ hTO⟩,hi1.at (at3 i1 ap.i1z),hi2.at (at3 i2 ap.i2z)⟩),(fun b hb=>?_)⟩
  rw[aD ?_]
  ·exact (hf b hb).1
  ·simp only[List.mem_cons,List.not_mem_nil,or_false] at hb
   rcases hb with rfl | rfl | rfl | rfl | rfl
   ·exact Nat.ne_of_lt lt1
   ·exact Nat.ne_of_lt lt2
   ·exact Nat.ne_of_lt lt3
   ·exact Nat.ne_of_lt lt4
   ·exact Nat.ne_of_lt lt5
 done:=by
  intro X hP hw hK hc i pins s σ H E I hf st hg
  subst hP hw hK
  obtain⟨xs,ys,hq,hq',hx⟩:=id hg
  obtain⟨its,rv,p,hz⟩:=I.list hq
  obtain⟨its',rv',p',hz'⟩:=I.list hq'
  obtain⟨h1,h2,⟨a,c,h3⟩,h4,h5⟩:=st
  have hl:=rv.length
  have hl':=rv'.length
  have inFp:∀ b,b∈[z,TO,i1,i2]->b∈[z,TI,TO,i1,i2]:=fun b hb=>by
   simp only[List.mem_cons,List.not_mem_nil,or_false] at hb ⊢
   rcases hb with h | h | h | h <;> simp[h]
  refine wpAny_pyNext_zip_end (I.ok.hd hc) ap h1 h2 h3 h4 h5 p.isList p'.isList (by simp;omega) fun h' eb=>⟨rfl,?_⟩
  have hk3:∀ b o,b∉[z,TO,i1,i2]->s.heap.get? b=some o->h'.get? b=some o:=fun b o hb q=>by
   simp only[List.mem_cons,List.not_mem_nil,or_false,not_or] at hb
   exact eb b o hb.1 hb.2.1 hb.2.2.1 hb.2.2.2 q
  have nin:∀ b o,H b=some o->b∉[z,TO,i1,i2]:=fun b o q hb=>by
   have:=(hf b (inFp b hb)).1
   rw[this] at q;cases q
  refine I.step (g':=s.gens) (d':=s.drawn) (ch:=[z,TO,i1,i2]) (fun b hb=>?_) (fun b o _ _ hb q _=>hk3 b o hb q) (fun b o _ _ hb q _=>⟨o.slots,hk3 b o hb q⟩) (fun b o hb q n=>n) (fun b o hb q=>⟨o,hk3 b o hb q⟩)
   (fun b ys q=>q) (fun b o ys q=>q) (fun b ps q=>⟨#[],by rw[q];simp⟩) (fun b q=>q) (fun m hm=>?_) (fun b o q=>?_) I.bare
  ·obtain⟨f0,f1,f2,f3,f4,f5⟩:=hf b (inFp b hb)
   exact⟨f3,f1,f4,f5⟩
  ·obtain⟨o,es',ep,ho',r⟩:=id hm
   refine ⟨o,es',ep,hk3 _ o (fun hb=>?_) ho',r⟩
   exact (hf _ (inFp _ hb)).2.1 rfl
  ·refine (I.hok b o q).stay (fun c v hc q'=>hk3 c v ?_ q') (fun c q'=>q') (fun c ys q'=>q') fun c ob ys _ _ q'=>q'
   rcases hc with hc | hc
   ·rw[hc];exact nin b o q
   ·exact nin c _ hc
 self:=fun _ _ _ _ _ st h=>wpAny_pyIter_zip st.1 h
def DJ (K:PySem.W.Frag)(ta:TA):TI:=fun σ H R=>ta σ H fun vs H1=>∃ a b,vs=[.ref a,.ref b]∧(∃ xs,aN K H1 a xs)∧(∃ ys,aN K H1 b ys)∧R (qd K a b) H1
theorem GQ {X:Cx}{es:List Expr}{x1}{tpos p pos:Pos}{a b:Expr}{ta:TA}(hg:Gl X "zip")(hm:X.mg "zip"=none)(ha:PA X [a,b] ta)(hs:starEach [a,b] X.env=[(false,eval a X.env),(false,eval b X.env)]:=by rfl)(hs2:starEach [b] X.env=[(false,eval b X.env)]:=by rfl) :
  PI X (.Tuple es x1 tpos) (.Call (.Name "zip" p) [a,b] [] pos) (DJ X.K ta):=by
 intro pins s σ H R I h
 refine Call_ (iX I hg hm PyProof.Rows.boot_zip (PyProof.Rows.callWith_type1 (aI (ha pos pins s σ H _ I h) fun us s1 ⟨vs,H1,I1,r1,q1⟩=>?_) (by rw[hs,hs2]) (by rw[hs2];rfl)))
 obtain⟨a,b,rfl,⟨xs,hq⟩,⟨ys,hq'⟩,q⟩:=q1
 cases r1 with
 | cons ru rr=>
  cases rr with
  | cons ru' rr=>
   cases rr
   cases ru
   cases ru'
   obtain⟨its,rv,pl,hz⟩:=I1.list hq
   obtain⟨its',rv',pl',hz'⟩:=I1.list hq'
   refine call_zip_2 pl.isList pl'.isList fun h' hz hTI hTO hi1 hi2 hsz hk=>?_
   refine wpAny_pyIter_zip hz ?_
   have I2:Inv X pins σ H1 {s1 with heap:=h' }:=I1.kept (t':=s1.toks) hk
   refine ⟨s1.heap.objs.size+4,([s1.heap.objs.size+4,s1.heap.objs.size+2,s1.heap.objs.size+3,s1.heap.objs.size,s1.heap.objs.size+1]),_,_,H1,rfl,I2,J8 a b _ _ _ _ _ (zipApart_new (Heap.lt_size pl.isList.choose_spec.1) (Heap.lt_size pl'.isList.choose_spec.1)),(⟨hz,hTI,⟨_,_,hTO⟩,hi1,hi2⟩),(fun c hb=>?_),q⟩
   have hb':s1.heap.objs.size≤c:=by
    simp only[List.mem_cons,List.not_mem_nil,or_false] at hb
    rcases hb with rfl | rfl | rfl | rfl | rfl <;> omega
   exact I1.fpOk hb' (I1.hok.fresh hb')
def kR (xs ys:List PyData):List PyData:=List.zipWith (fun x y=>.tuple [x,y]) xs ys
def tY (x y:Option (List PyData)):Option (List PyData):=x.bind fun a=>y.map fun b=>kR a b
theorem Kw {ds es:List PyData}{i:Nat}{d:PyData}(h:(kR ds es)[i]?=some d):∃ x y,ds[i]?=some x∧es[i]?=some y∧d=.tuple [x,y]:=by
 unfold kR at h
 rw[List.getElem?_zipWith] at h
 cases h1:ds[i]? with
 | none=>rw[h1] at h;cases h2:es[i]? <;> rw[h2] at h <;> cases h
 | some p=>
  cases h2:es[i]? with
  | none=>rw[h1,h2] at h;cases h
  | some q=>
   rw[h1,h2] at h
   exact ⟨p,q,rfl,rfl,(Option.some.inj h).symm⟩
theorem Dn {K:PySem.W.Frag}{G:Hp}{a b:Addr}{xs ys:List V}{ds es:List PyData}(q:aN K G a xs)(r:ar K G xs ds)(q':aN K G b ys)(r':ar K G ys es):fO K (qd K a b) G (kR ds es) where
 go:=fun H2 i s h=>by
  have hh:i<min ds.length es.length:=by simpa [kR] using h
  have hl:i<xs.length:=by rw[r.length];omega
  have hl':i<ys.length:=by rw[r'.length];omega
  exact ⟨xs,ys,xs[i],ys[i],s.seq q,s.seq q',(by simp[hl]),(by simp[hl'])⟩
 yld:=fun H2 i x H3 d s h y=>by
  obtain⟨e,e',h1,h1',zq4⟩:=Kw h
  subst zq4
  revert y
  refine fun zqq=>L2.yp zqq fun p v v2 hp zq4 zq5 y y'=>?_
  clear zqq
  subst zq4
  subst zq5
  obtain⟨w,h2,h3⟩:=r.get h1
  obtain⟨w',h2',h3'⟩:=r'.get h1'
  have z1:=y xs (s.seq q)
  have z2:=y' ys (s.seq q')
  rw[h2] at z1
  rw[h2'] at z2
  obtain rfl:=Option.some.inj z1
  obtain rfl:=Option.some.inj z2
  exact .inr ⟨p,_,_,hp,rfl,rfl,rfl,.cons h3 (.cons h3' .nil)⟩
 stop:=fun H2 s=>⟨xs,ys,s.seq q,s.seq q',by
  have:=r.length
  have:=r'.length
  simp[kR]
  omega⟩
theorem Eb {X:Cx}{O:Ow}{es:List Expr}{x1}{tpos p pos:Pos}{a b:Expr}{f g:aa->Option PyData}(hg:Gl X "zip")(hm:X.mg "zip"=none)(ha:PV X O a f)(hb:PV X O b g)(hs1:starEach (a::[b]) X.env=(false,eval a X.env)::starEach [b] X.env:=by rfl)(hs2:starEach (b::[]) X.env=(false,eval b X.env)::starEach [] X.env:=by rfl)(hs:starEach [a,b] X.env=[(false,eval a X.env),(false,eval b X.env)]:=by rfl)(hs3:starEach [b] X.env=[(false,eval b X.env)]:=by rfl) :
  gR X O (.Tuple es x1 tpos) (.Call (.Name "zip" p) [a,b] [] pos) (fun ρ=>tY ((f ρ).bind br) ((g ρ).bind br)):=(GQ hg hm (aJ ha (aJ hb bE hs2) hs1) hs hs3).imp fun σ H R zpat=>by
 obtain⟨hid,H0,ρ,ow,ds,E,hf,k⟩:=zpat
 obtain⟨d1,g1,g2⟩:=bind_some hf
 obtain⟨d2,g3,rfl⟩:=map_some g2
 obtain⟨e1,h1,h2⟩:=bind_some g1
 obtain⟨e2,h3,h4⟩:=bind_some g3
 rw[fD h2] at h1
 rw[fD h4] at h3
 refine⟨hid,H0,ρ,ow,_,E,(by rw[h1,h3];rfl:af (f ρ) (af (g ρ) (some []))=some [.list d1,.list d2]),fun vs H' s D=>?_⟩
 cases D with
 | cons D1 D=>
  cases D with
  | cons D2 D=>
   cases D
   obtain⟨a,xs,rfl,q,r⟩:=df D1
   obtain⟨b,ys,rfl,q',r'⟩:=df D2
   exact ⟨a,b,rfl,(⟨xs,(bA _ _).seq q⟩),(⟨ys,(bA _ _).seq q'⟩),k _ H' s (Dn q r q' r')⟩
end L2
namespace L2
section
variable {P:Program}{w:World}{A:Around}{E:Value->Shared->Prop}{h:Heap}{g:Array GenState}{d:Drawn}{t:Nat}{os:OsState}
variable {C N:Addr}{nm q:Str}{bs bm bmB:List Value}{hdct:Bool}{sn:List Str}{sub:List Value}{ab:Bool}{col:Option Bool}{dd:Option Addr}{k0 k1 k2 k3 k5:Option Value}{B Bn newId nid initId inN:String}{bmN:List Value}
theorem Kd (Fn:ExcBaseFacts Bn newId inN bmN)(hBn:bmB.contains (.type Bn)=true)(F:ExcBaseFacts B nid initId bmB)(T:OwnTail h bmB bm){mN:Str->Option Value}{rest:List Value}{fI:Addr}{oI:Obj}{Q:Fin->Shared->Prop}
  (hCl:h.get? C=some (excClassObj nm q C N bs bm hdct sn sub ab col dd k0 k1 k2 k3 k5 newId)) (hn:h.Ns N mN) (hi:mN "__init__"=some (.ref fI)) (hfI:h.get? fI=some oI) (hfc:oI.cls=.type "function")
  (hq:∀ h' e,Heap.MadeExcOf h h' e (.ref C) rest->h.objs.size≤e->wpAny (model P w) A (call (.ref fI) (.ref e::rest)) (fun r s'=>r=.none∧Q (.done (.ret (.ref e))) s') E ⟨h',g,d,t,os⟩) (hrest:rest.length≤sizeLine) :
  wpAny (model P w) A (Builtin.«type.__call__» ⟨.ref C::rest,[]⟩) Q E ⟨h,g,d,t,os⟩:=by
 repeat (first | with_reducible refine wpAny_loadPart_at hCl ?_ | with_reducible refine wpAny_madeBy_exc hCl ?_ | wp_step)
 refine codeAny_call_builtin_code (Code.quiet_builtin _ Fn.quiet) (wpAny_check_new_subU Fn hBn T hCl (codeAny_exc_new_subU Fn hBn F T hCl ?_ hrest))
 show wpAny _ _ _ _ _ _
 generalize e2:(h.push {cls:=.type "tuple",data:=.seq rest.toArray}).push {cls:=.ref C,data:=.fields #[.ref h.objs.size,.none,.none,.none,.bool false,.none]}=h2
 have up:∀ b o,h.get? b=some o->h2.get? b=some o:=fun b o e=>by rw[← e2];exact Heap.get?_push_of_some _ (Heap.get?_push_of_some _ e)
 have hnew:h2.get? (h.objs.size+1)=some {cls:=.ref C,data:=.fields #[.ref h.objs.size,.none,.none,.none,.bool false,.none]}:=by rw[← e2];heap_get
 have hself:(Value.ref C::bm).contains (.ref C)=true:=by simp
 unfold isInstance
 repeat (first | with_reducible refine wpAny_loadPart_at hnew ?_ | (with_reducible refine wpAny_isSubtype_exc (up _ _ hCl) ?_;rw[hself]) | wp_step)
 refine (show wpAny _ _ (typeLookup (.ref C) _) _ _ _ from wpAny_typeLookup_tail (up _ _ hCl) (hn.keeps up) (T.keeps up) F.mroIs F.init.lookup ?_)
 rw[hi]
 refine wpAny_holding (wpAny_bind ?_)
 unfold bindSpecial
 refine wpAny_bind (wpAny_typeOf (T:="function") ⟨_,up _ _ hfI,hfc⟩ ?_)
 rw[if_pos (by decide)]
 refine wpAny_pure (wpAny_bind (wpAny_mono (hq h2 (h.objs.size+1) ⟨up,Heap.get?_none_of_le (Nat.le_succ _),h.objs.size,hnew,Heap.get?_none_of_le (Nat.le_refl _),?_⟩ (Nat.le_succ _)) (fun r s' hr=>?_) fun _ _ x=>x))
 ·rw[← e2];exact Heap.get?_push_of_some _ (Heap.get?_push_at rfl rfl)
 ·revert hr
  refine fun zqq=>L2.kv zqq fun zq0 hQ=>?_
  clear zqq
  subst zq0
  wp_walk
  exact hQ
theorem BO (Fn:ExcBaseFacts Bn newId inN bmN)(hBn:bmB.contains (.type Bn)=true)(F:ExcBaseFacts B nid initId bmB)(T:OwnTail h bmB bm){mN:Str->Option Value}{rest:List Value}{fI:Addr}{oI:Obj}{Q:Value->Shared->Prop}
  (hCl:h.get? C=some (excClassObj nm q C N bs bm hdct sn sub ab col dd k0 k1 k2 k3 k5 newId)) (hn:h.Ns N mN) (hi:mN "__init__"=some (.ref fI)) (hfI:h.get? fI=some oI) (hfc:oI.cls=.type "function")
  (hq:∀ h' e,Heap.MadeExcOf h h' e (.ref C) rest->h.objs.size≤e->wpAny (model P w) (A.under (.builtin "type.__call__" ⟨.ref C::rest,[]⟩)) (call (.ref fI) (.ref e::rest)) (fun r s'=>r=.none∧Q (.ref e) s') E ⟨h',g,d,t,os⟩) (hrest:rest.length≤sizeLine) :
  wpAny (model P w) A (call (.ref C) rest) Q E ⟨h,g,d,t,os⟩:=by
 have f1:=tc_lookup
 have f2:=tc_bind (.ref C)
 have hT:(⟨h,g,d,t,os⟩:Shared).TypeIs (.ref C) "type":=⟨_,hCl,rfl⟩
 refine wpAny_call (codeAny_of_tree ?_)
 refine (show wpAny _ _ (callAny (.ref C) _) _ _ _ from ?_)
 repeat (any_goals (first | assumption | with_reducible refine wpAny_loadPart_at hCl ?_ | wp_step))
 exact⟨rfl,codeAny_call_builtin_at (Code.quiet_builtin _ (by decide +kernel)) entry_typeCall (wpAny_check_type_call_sub hCl (Kd Fn hBn F T hCl hn hi hfI hfc hq hrest))⟩
end
section
variable {P:Program}{w:World}{A:Around}{E:Value->Shared->Prop}{s:Shared}
variable {nm q:Str}{C N e:Addr}{bs bm bmB:List Value}{hdct:Bool}{sn:List Str}{sub:List Value}{ab:Bool}{col:Option Bool}{dd:Option Addr}{k0 k1 k2 k3 k5:Option Value}{B newId nid initId:String}
theorem Bt (F:ExcBaseFacts B nid initId bmB)(T:OwnTail s.heap bmB bm)(hCl:s.heap.get? C=some (excClassObj nm q C N bs bm hdct sn sub ab col dd k0 k1 k2 k3 k5 newId)){oe:Obj}{vs:Array Value}(he:s.heap.get? e=some oe)(hc:oe.cls=.ref C)(hd:oe.data=.fields vs)(hz:0<vs.size){v:Value}{Q:Value->Shared->Prop}
  (hq:∀ h',h'.get? e=some (oe.mapFields (·.setIfInBounds 0 (.ref s.heap.objs.size)))->(∀ b o,b≠e->s.heap.get? b=some o->h'.get? b=some o)->Q .none {s with heap:=h' }) :
  wpAny (model P w) A (call (.builtin initId) [.ref e,v]) Q E s:=by
 obtain⟨hp,g,d,tk,os⟩:=s
 refine wpAny_call (codeAny_call_builtin F.init.plain F.initEntry (wpAny_check_init_subU F T hCl he hc ?_))
 wp_walk
 rw[hd]
 obtain⟨x,hx⟩:∃ x,vs[0]?=some x:=⟨vs[0],by simp[hz]⟩
 refine wpAny_pure ?_
 rw[hx]
 have he1:(hp.push {cls:=.type "tuple",data:=.seq #[v]}).get? e=some oe:=Heap.get?_push_of_some _ he
 refine wpAny_pure (wpAny_bind (wpAny_setField he1 hd hz ?_))
 have fin:Q .none ⟨(hp.push {cls:=.type "tuple",data:=.seq #[v]}).update e (Obj.mapFields (·.setIfInBounds 0 (.ref hp.objs.size))),g,d,tk,os⟩:=by
  refine hq _ (Heap.get?_update_self _ he1 (Obj.isFreed_of_fields (Obj.data_mapFields hd _))) fun b o hb e'=>?_
  rw[Heap.get?_update_other _ _ (Ne.symm hb)]
  exact Heap.get?_push_of_some _ e'
 cases x <;> first
  | exact wpAny_pure (wpAny_pure fin)
  | exact wpAny_letGo (wpAny_pure fin)
end
end L2
namespace L2
def r8:List Value->Bool
 | .ref _::r=>r8 r
 | l=>l==fm
theorem F_ {l:List Value}(h:r8 l=true):∃ rs:List Addr,l=rs.map Value.ref++fm:=by
 induction l with
 | nil=>exact absurd h (by decide)
 | cons a r ih=>
  cases a with
  | ref c=>
   obtain⟨rs,e⟩:=ih h
   exact⟨c::rs,by rw[e];rfl⟩
  | _=>exact⟨[],eq_of_beq h⟩
theorem zh (self:Value):∀ rs:List Addr,refuseLoop self "__setattr__" (rs.map Value.ref++fm)=pure ()
 | []=>PySem.F.store_ValueError.passes self
 | c::rs=>by rw[List.map_cons,List.cons_append,refuseLoop_ref];exact zh self rs
def r9 (K:PySem.W.Frag)(C:Addr):Bool:=(PySem.W.clsIn K C).any fun cd=>r8 cd.mro&&cd.hasDict
section
variable {P:Program}{w:World}{A:Around}{E:Value->Shared->Prop}{s:Shared}{K:PySem.W.Frag}{e C:Addr}{oe:Obj}{vs:Array Value}{name:Str}{v:Value}
theorem IZ {Q:Unit->Shared->Prop}(X:K.In s.heap)(he:s.heap.get? e=some oe)(hc:oe.cls=.ref C)(hd0:oe.dict=none)(hdat:oe.data=.fields vs)
  (hs:PySem.W.findIn K (.ref C) "__setattr__"=some (some (.builtin "object.__setattr__"))) (hp:r9 K C=true) (hf:PySem.W.findIn K (.ref C) name=some none)
  (hq:∀ h' tk',h'.get? e=some {oe with dict:=some s.heap.objs.size}->h'.Ns1 s.heap.objs.size (fun y=>if y=name then some v else none)->(∀ b o,b≠e->s.heap.get? b=some o->h'.get? b=some o)->Q () {s with heap:=h',toks:=tk' }) :
  wpAny (model P w) A (setAttr (.ref e) name v) Q E s:=by
 have I:PySem.W.InstAt s.heap e oe C none:=⟨he,hc,by unfold PySem.W.notCls;rw[hdat],by rw[hd0];trivial⟩
 obtain⟨cd,hcd,ho⟩:=PySem.W.any_some hp
 rw[Bool.and_eq_true] at ho
 obtain⟨rs,hm⟩:=F_ ho.1
 have SF:=PySem.F.store_object
 refine PySem.W.set_plain X I hs ?_
 have ne:cd.mro.isEmpty=false:=by rw[hm];cases rs <;> rfl
 have sub:PySem.W.Looks (model P w) s.heap (isInstance (.ref e) (.type "object")) true:=I.type.andThen (PySem.W.looks_mroIn X (by
  unfold PySem.W.mroIn
  rw[hcd,Option.bind_some,if_neg (by rw[ne];decide),hm]
  congr 1
  rw[List.contains_eq_any_beq,List.any_append]
  have:fm.any (fun x=>Value.type "object"==x)=true:=by decide
  rw[this,Bool.or_true]))
 refine codeAny_call_builtin SF.slot.plain SF.entry (@PySem.W.check_slot (model P w) _ _ {s with toks:=s.toks+1} "object.__setattr__" "object" "__setattr__" (.ref e) [.str name s.toks,v] [] _ SF.kind SF.split sub (SF.args (.ref e) (.str name s.toks) v) ?_)
 rw[PySem.W.osa_eq,refuse_eq]
 have hmro:PySem.W.Looks (model P w) s.heap (mroOf (.ref C)) cd.mro:=(PySem.W.looks_clsIn X hcd).andThen .now
 refine wpAny_bind (wpAny_bind (PySem.W.Looks.here (s:={s with toks:=s.toks+1}) I.type (wpAny_bind (PySem.W.Looks.here (s:={s with toks:=s.toks+1}) hmro ?_))))
 rw[hm,zh]
 refine wpAny_pure (wpAny_bind (PySem.W.Looks.here (s:={s with toks:=s.toks+1}) I.type (wpAny_bind (PySem.W.Looks.here (s:={s with toks:=s.toks+1}) (PySem.W.looks_findIn X hf) (wpAny_bind (wpAny_pure ?_))))))
 have hx0:s.heap.get? e=some ⟨.ref C,none,.fields vs,oe.slots⟩:=by
  obtain⟨oc,od,oda,osl⟩:=oe
  dsimp only at hc hd0 hdat
  subst hc hd0 hdat
  exact he
 refine wpAny_bind (wpAny_pure (wpAny_bind (wpAny_bind (wpAny_loadPart hx0 (wpAny_bind (PySem.W.Looks.here (s:={s with toks:=s.toks+1}) (PySem.W.looks_clsIn X hcd) ?_))))))
 rw[ho.2,if_neg (by decide)]
 dsimp only
 rw[if_neg (by simp[typeHasDict])]
 generalize hn:s.heap.objs.size=n at hq
 have hx1:(s.heap.push {cls:=.type "dict",data:=.dict #[]}).get? e=some ⟨.ref C,none,.fields vs,oe.slots⟩:=Heap.get?_push_of_some _ hx0
 have hne:e≠n:=by rw[← hn];exact Nat.ne_of_lt (Heap.lt_size he)
 refine wpAny_bind (wpAny_alloc' (wpAny_bind (wpAny_update' hx1 (wpAny_pure ?_))))
 have hgd:((s.heap.push {cls:=.type "dict",data:=.dict #[]}).update e fun o=>{cls:=o.cls,dict:=some s.heap.objs.size,data:=o.data,slots:=o.slots}).get? s.heap.objs.size=some {cls:=.type "dict",data:=.dict #[]}:=
  (Heap.get?_update_ne _ _ _ _ (by rw[hn];exact hne.symm)).trans (Heap.get?_push_at rfl rfl)
 have hnd:((s.heap.push {cls:=.type "dict",data:=.dict #[]}).update e fun o=>{cls:=o.cls,dict:=some s.heap.objs.size,data:=o.data,slots:=o.slots}).Ns s.heap.objs.size (fun _=>none):=⟨_,#[],_,hgd,rfl,fun x hx=>absurd hx (by simp),fun _=>rfl⟩
 refine (show wpAny _ _ (Builtin.ObjectAttr.storeInDict s.heap.objs.size (.str name s.toks) name v) _ _ _ from ?_)
 unfold Builtin.ObjectAttr.storeInDict Builtin.ObjectAttr.newKeyGuard
 refine wpAny_bind (wpAny_pure (wpAny_bind (wpAny_nsSet1 (Heap.Ns1.of_empty hnd) fun h' hn' hs'=>?_)))
 obtain⟨oX,eX,pX,gX,dX,cX⟩:=hn'.count (Within.cons name v Within.nil)
 refine wpAny_bind (wpAny_lookBehind gX (by rw[dX];exact pastItsLine_dict (Nat.le_trans cX (by rw[List.length_cons,List.length_nil,sizeLine_eq];omega))) ?_)
 wp_walk
 refine (show Q () {s with heap:=h',toks:=s.toks+1+1} from hq h' _ ?_ ?_ fun b o hb q=>?_)
 ·refine (hs'.2 e (by rw[hn];exact hne)).trans ((Heap.get?_update_self _ hx1 rfl).trans ?_)
  rw[hn,hc,hdat]
 ·rw[← hn];exact hn'
 ·exact (hs'.2 b (Nat.ne_of_lt (Heap.lt_size q))).trans ((Heap.get?_update_ne _ _ _ _ hb).trans (Heap.get?_push_of_some _ q))
end
end L2
namespace L2
section
variable {X:Cx}{a b c:Expr}{pos:Pos}{ta tb tc:TE}
def zY (t:TE):TE:=fun σ H Q=>t σ H fun x H1=>∃ i:Int,x=.int i∧i.natAbs.log2<1920∧Q (.str (toString i)) H1
theorem yH (ha:PE X a ta):PE X (.FormattedValue a (-1) none pos) (zY ta):=by
 intro pins s σ H Q I h
 refine FormattedValue_plain (aI (ha pins s σ H _ I h) fun v s1 zpat=>?_)
 obtain⟨x,H1,I1,r1,i,rfl,hd,q⟩:=zpat
 revert r1
 refine fun zqq=>L2.c5 zqq fun t zq1=>?_
 clear zqq
 subst zq1
 exact formatField_int_small hd ⟨.str _,H1,I1.tok _,⟨_,rfl⟩,q⟩
def zZ (ta tb tc:TE):TE:=fun σ H Q=>ta σ H fun x H1=>∃ i:Str,x=.str i∧i.length≤10000∧tb σ H1 fun y H2=>∃ j:Str,y=.str j∧j.length≤10000∧tc σ H2 fun z H3=>∃ k:Str,z=.str k∧k.length≤10000∧Q (.str (i++j++k)) H3
theorem v8 (i:Str):Str.empty++i=i:=by
 obtain⟨c⟩:=i
 show (⟨#[]++c⟩:Str)=⟨c⟩
 rw[Array.empty_append]
theorem Ez {i j:Str}(hi:i.length≤10000)(hj:j.length≤10000):(i++j).length≤20000:=by rw[strLen_append];omega
theorem yJ (ha:PE X a ta)(hb:PE X b tb)(hc:PE X c tc):PE X (.JoinedStr [a,b,c] pos) (zZ ta tb tc):=by
 intro pins s σ H Q I h
 have hz:100000<sizeLine:=by decide
 refine JoinedStr_many ?_
 rw[show evalEach [c] X.env=[eval c X.env] from rfl]
 refine joinParts_cons (aI (ha pins s σ H _ I h) fun v s1 zpat=>?_)
 obtain⟨x,H1,I1,r1,i,rfl,hi,q⟩:=zpat
 revert r1
 refine fun zqq=>L2.c5 zqq fun t zq1=>?_
 clear zqq
 subst zq1
 refine⟨by rw[v8];omega,joinParts_cons (aI (hb pins s1 σ H1 _ I1 q) fun v s2 zpat=>?_)⟩
 obtain⟨y,H2,I2,r2,j,rfl,hj,q⟩:=zpat
 revert r2
 refine fun zqq=>L2.c5 zqq fun t2 zq1=>?_
 clear zqq
 subst zq1
 have hl:=Ez hi hj
 dsimp only
 rw[v8]
 refine⟨by omega,joinParts_cons (aI (hc pins s2 σ H2 _ I2 q) fun v s3 zpat=>?_)⟩
 obtain⟨z,H3,I3,r3,k,rfl,hk,q⟩:=zpat
 revert r3
 refine fun zqq=>L2.c5 zqq fun t3 zq1=>?_
 clear zqq
 subst zq1
 have hl3:(i++j++k).length≤30000:=by rw[strLen_append];omega
 exact⟨by omega,joinParts_nil ⟨.str _,H3,I3.tok _,⟨_,rfl⟩,q⟩ (by omega)⟩
end
end L2
namespace L2
structure pL (X:Cx)(b:Str)(CP:Addr):Prop where
 gl:Gl X b
 mg:X.mg b=some (.ref CP)
 rd:PySem.W.readsIn X.K CP (.type "type")=true
 fc:PySem.W.findCls X.K (.ref CP) (.type "type") "__init__"=some (.val (.builtin "ValueError.__init__"))
 sp:PySem.W.specialIn X.K (.ref CP) "__getattribute__"=some (some (.builtin "type.__getattribute__"))
section
variable [Reg]{X:Cx}{a b:Expr}{ta:TA}{B:Str}{CP C e:Addr}{np apos cpos:Pos}{pins:List (Addr×Obj)}{oe:Obj}{vs:Array Value}
theorem CF (c:pL X B CP)(ha:PA X [a,b] ta){s:Shared}{σ:St}{H:Hp}{Q:Hp->Prop}(I:Inv X (pins++[(e,oe)]) σ H s)
  (hx:∀ {s':Shared} {H':Hp},Inv X (pins++[(e,oe)]) σ H' s'->∃ (nm q:Str) (N:Addr) (bs bm:List Value) (hdct:Bool) (sn:List Str) (sub:List Value) (ab:Bool) (col:Option Bool) (dd:Option Addr) (k0 k1 k2 k3 k5:Option Value) (newId:String),s'.heap.get? C=some (excClassObj nm q C N bs bm hdct sn sub ab col dd k0 k1 k2 k3 k5 newId)∧OwnTail s'.heap fm bm)
  (hc:oe.cls=.ref C) (hd:oe.data=.fields vs) (hz:0<vs.size) (hfp:∀ H',H' e=none->b_ X pins H' e)
  (h:ta σ H fun ws H1=>∃ txt,ws=[.ref e,.str txt]∧Q H1)
  (hst:starEach [a,b] X.env=(false,eval a X.env)::starEach [b] X.env:=by rfl) (hpl:(backTo cpos (starEach [b] X.env)).any (·.1)=false:=by rfl) (hdb:(B==("__debug__":Str))=false:=by decide)
  (pl:Sem Bool) (ht:eval (.Call (.Attribute (.Name B np) "__init__" apos) [a,b] [] cpos) X.env=(do
   let ov ← eval (.Name B np) X.env
   standAt apos.atName
   let (f,first) ← holding [ov] (getMethod ov "__init__" pl)
   callWith cpos f first (backTo cpos (starEach [a,b] X.env)) (backToKw cpos (keywordEach [] X.env)))) :
  wpAny (model X.prog X.w) X.A (eval (.Call (.Attribute (.Name B np) "__init__" apos) [a,b] [] cpos) X.env) (fun v s'=>v=.none∧∃ H1 t,Inv X (pins++[(e,oe.mapFields (·.setIfInBounds 0 (.ref t)))]) σ H1 s'∧Q H1) X.xe s:=by
 refine PySem.W.methodCall_KW (pl:=pl) (aI (yI (v:=.ref CP) c.gl c.mg rfl hdb _ s σ H (fun x H1=>x=.ref CP∧H1=H) I ⟨rfl,rfl⟩) fun u s1 zpat=>?_) ht
 obtain⟨x,H1,I1,rx,rfl,rfl⟩:=zpat
 obtain rfl:u=Value.ref CP:=rx
 refine PySem.W.method_cls I1.kIn c.sp (PySem.W.cls_value I1.kIn c.rd c.fc (by decide +kernel) ?_)
 have I1':Inv X (pins++[(e,oe)]) σ H1 {s1 with toks:=s1.toks+1}:=I1.tok _
 have hA:=ha cpos _ _ σ H1 _ I1' h
 rw[hst] at hA ⊢
 refine Calls.callWith_builtin (by show (false||(backTo cpos (starEach [b] X.env)).any (·.1))=false;rw[hpl] <;> rfl) (Calls.evalArgs_plain (aI hA fun us s2 zpat=>?_))
 obtain⟨ws,H2,I2,r2,txt,rfl,q⟩:=zpat
 obtain⟨u1,u2,zq2,ru1,ru2⟩:=r2.two
 subst zq2
 obtain rfl:u1=Value.ref e:=ru1
 obtain⟨nm,qn,N,bs,bm,hdct,sn,sub,ab,col,dd,k0,k1,k2,k3,k5,newId,hCl,T⟩:=hx I2
 obtain⟨he,hn,hne,hnf,hdc⟩:=I2.pin (e,oe) (List.mem_append_right _ (List.mem_append_right _ (List.mem_singleton.mpr rfl)))
 refine Bt PySem.F.excBase_ValueError T hCl he hc hd hz fun h' g1 g2=>⟨rfl,H2,s2.heap.objs.size,?_,q⟩
 refine Inv.swap (t':=s2.toks) (a:=e) (h':=h') I2 (hfp H2 hn) (fun b o hb q'=>g2 b o hb q') fun p hp=>.inr ?_
 rw[List.mem_singleton.mp hp]
 refine⟨rfl,g1,fun v z=>?_⟩
 rw[Obj.data_mapFields hd] at z
 cases z
theorem Inv.adopt1 {pins:List (Addr×Obj)}{σ:St}{H:Hp}{s:Shared}{a:Addr}{o:HO}(I:Inv X pins σ H s)(f:b_ X pins H a)(new:c9 X.prog X.w (upd H a o) s.heap a o):Inv X pins σ (upd H a o) s:=by
 obtain⟨f0,f1,f2,f3,f4,f5⟩:=id f
 have sm:aj H (upd H a o):=bK f0
 exact I.step (g':=s.gens) (t':=s.toks) (d':=s.drawn) (ch:=[a]) (h':=s.heap) (H':=upd H a o) (fun b hb=>by
   obtain rfl:b=a:=List.mem_singleton.mp hb
   exact⟨f3,f1,f4,f5⟩) (fun b u _ _ _ e _=>e) (fun b u _ _ _ e _=>⟨u.slots,e⟩) (fun b u hb e n=>by rw[aD fun z=>hb (List.mem_singleton.mpr z)];exact n) (fun b u _ e=>⟨u,e⟩)
  (fun b ys e=>sm _ _ e) (fun b u ys e=>sm _ _ e) (fun b ys e=>⟨#[],by rw[sm _ _ e];simp⟩) (fun b e=>sm _ _ e) (fun m hm=>hm) (fun b u e=>by
   by_cases hb:b=a
   ·subst hb
    rw[bC] at e
    obtain rfl:=Option.some.inj e
    exact new
   ·rw[aD hb] at e
    exact (I.hok b u e).stay (fun c v _ q=>q) (fun c q=>sm _ _ q) (fun c ys q=>sm _ _ q) fun c ob ys _ _ q=>sm _ _ q) I.bare
theorem I_ {f:Str}{y:V}{u:Value}{A:Around}{E:Value->Shared->Prop}{σ:St}{H:Hp}{s:Shared}{Q:Unit->Shared->Prop}(I:Inv X (pins++[(e,oe)]) σ H s)(hc:oe.cls=.ref C)(hd0:oe.dict=none)(hd:oe.data=.fields vs)
  (hs:PySem.W.findIn X.K (.ref C) "__setattr__"=some (some (.builtin "object.__setattr__"))) (hp:r9 X.K C=true) (hf:PySem.W.findIn X.K (.ref C) f=some none) (hfp:∀ H',H' e=none->b_ X pins H' e) (ry:RelV y u)
  (h:∀ s' n,H n=none->Inv X (pins++[(e,{oe with dict:=some n})]) σ (upd H n (.xd [(f,y)])) s'->Q () s'):wpAny (model X.prog X.w) A (setAttr (.ref e) f u) Q E s:=by
 obtain⟨he,hn,hne,hnf,hdc⟩:=I.pin (e,oe) (List.mem_append_right _ (List.mem_append_right _ (List.mem_singleton.mpr rfl)))
 refine IZ I.kIn he hc hd0 hd hs hp hf fun h' tk' g1 g2 g3=>?_
 have fresh:H s.heap.objs.size=none:=I.hok.fresh (Nat.le_refl _)
 have I1:=Inv.swap (pl':=[(e,{oe with dict:=some s.heap.objs.size})]) (t':=tk') (a:=e) (h':=h') I (hfp H hn) g3 fun p hp=>.inr (by
  rw[List.mem_singleton.mp hp]
  exact⟨rfl,g1,fun v z=>hdc v z⟩)
 obtain⟨f0,f1,f2,f3,f4,f5⟩:=I.fpOk (Nat.le_refl _) fresh
 refine h _ s.heap.objs.size fresh (Inv.adopt1 I1 ⟨f0,f1,f2,f3,f4,fun p hp=>?_⟩ ⟨_,g2,fun g=>?_⟩)
 ·rcases List.mem_append.mp hp with z | z
  ·exact f5 p (List.mem_append_left _ z)
  ·rcases List.mem_append.mp z with z | z
   ·exact f5 p (List.mem_append_right _ (List.mem_append_left _ z))
   ·rw[List.mem_singleton.mp z]
    exact f5 (e,oe) (List.mem_append_right _ (List.mem_append_right _ (List.mem_singleton.mpr rfl)))
 ·rw[List.lookup_cons]
  by_cases q:g=f
  ·rw[if_pos q,show (g==f)=true from beq_iff_eq.mpr q];exact ry
  ·rw[if_neg q,show (g==f)=false from beq_eq_false_iff_ne.mpr q];exact trivial
end
end L2
namespace L2
section
variable [Reg]{X:Cx}{a b ov vl:Expr}{ta:TA}{to tv:TE}{B f:Str}{CP C e:Addr}{np apos cpos pos1 pos2 fpos:Pos}{pins:List (Addr×Obj)}{oe:Obj}{vs:Array Value}
structure jY (K:PySem.W.Frag)(C:Addr)(f:Str):Prop where
 sa:PySem.W.findIn K (.ref C) "__setattr__"=some (some (.builtin "object.__setattr__"))
 ov:r9 K C=true
 no:PySem.W.findIn K (.ref C) f=some none
theorem DN (c:pL X B CP)(k:jY X.K C f)(ha:PA X [a,b] ta)(ho:PE X ov to)(hv:PE X vl tv){s:Shared}{σ:St}{H:Hp}{y:V}{Q:Addr->Hp->Prop}(I:Inv X (pins++[(e,oe)]) σ H s)
  (hx:∀ {s':Shared} {H':Hp} {oe':Obj},Inv X (pins++[(e,oe')]) σ H' s'->∃ (nm q:Str) (N:Addr) (bs bm:List Value) (hdct:Bool) (sn:List Str) (sub:List Value) (ab:Bool) (col:Option Bool) (dd:Option Addr) (k0 k1 k2 k3 k5:Option Value) (newId:String),s'.heap.get? C=some (excClassObj nm q C N bs bm hdct sn sub ab col dd k0 k1 k2 k3 k5 newId)∧OwnTail s'.heap fm bm)
  (hc:oe.cls=.ref C) (hd0:oe.dict=none) (hd:oe.data=.fields vs) (hz:0<vs.size) (hfp:∀ H',H' e=none->b_ X pins H' e)
  (h:ta σ H fun ws H1=>∃ txt,ws=[.ref e,.str txt]∧tv σ H1 fun y' H2=>y'=y∧to σ H2 fun x H3=>x=.ref e∧∀ n,H3 n=none->Q n (upd H3 n (.xd [(f,y)])))
  (hst:starEach [a,b] X.env=(false,eval a X.env)::starEach [b] X.env) (hpl:(backTo cpos (starEach [b] X.env)).any (·.1)=false) (hdb:(B==("__debug__":Str))=false)
  (hsw1:swapsWith (.Call (.Attribute (.Name B np) "__init__" apos) [a,b] [] cpos) none pos1.line X.env=pure false) (hsw2:swapsWith vl (some (.Attribute ov f fpos)) pos2.line X.env=pure false)
  (pl:Sem Bool) (ht:eval (.Call (.Attribute (.Name B np) "__init__" apos) [a,b] [] cpos) X.env=(do
   let ov ← eval (.Name B np) X.env
   standAt apos.atName
   let (f,first) ← holding [ov] (getMethod ov "__init__" pl)
   callWith cpos f first (backTo cpos (starEach [a,b] X.env)) (backToKw cpos (keywordEach [] X.env)))) :
  wpAny (model X.prog X.w) X.A (execs [.Expr (.Call (.Attribute (.Name B np) "__init__" apos) [a,b] [] cpos) pos1,.Assign [.Attribute ov f fpos] vl pos2] X.env)
   (fun fl s'=>fl=.next∧∃ H1 t n,Inv X (pins++[(e,{ (oe.mapFields (·.setIfInBounds 0 (.ref t))) with dict:=some n})]) σ H1 s'∧Q n H1) X.xe s:=by
 refine wpAny_execs_cons (wpAny_Expr_any (aI (CF c ha I (fun J=>hx J) hc hd hz hfp h hst hpl hdb pl ht) fun v s1 zpat=>?_) I.quiet hsw1)
 revert zpat
 refine fun zqq=>L2.Fi zqq fun zq0 H1 t I1 q=>?_
 clear zqq
 subst zq0
 refine wpAny_execs_cons (plainObj_wpAny_Assign_Attribute (aI (hv _ s1 σ H1 _ I1 q) fun u s2 zpat=>?_) hsw2)
 obtain⟨y',H2,I2,ry,rfl,q2⟩:=zpat
 refine aI (ho _ s2 σ H2 _ I2 q2) fun ov s3 zpat=>?_
 obtain⟨x,H3,I3,rx,rfl,q3⟩:=zpat
 obtain rfl:ov=Value.ref e:=rx
 exact I_ I3 ((Obj.cls_mapFields ..).trans hc) ((Obj.dict_mapFields _ _).trans hd0) (Obj.data_mapFields hd _) k.sa k.ov k.no hfp ry fun s4 n hn I4=>wpAny_execs_nil ⟨rfl,_,t,n,I4,q3 n hn⟩
end
end L2
namespace L2
def gx (X:Cx)(e:Addr):Cx:={X with ex:=[e]}
section
variable {X:Cx}{e:Addr}{oe:Obj}{σ:St}{H:Hp}{s:Shared}
theorem Inv.addEx (I:Inv X [] σ H s)(hpn:X.pn=[])(hex:X.ex=[])(he:s.heap.get? e=some oe)(hn:H e=none)(hne:e≠X.env.locals)(hcl:∀ x c,X.env.cells.lookup x=some c->c≠e)(hb:X.base.get? e=none)(hfs:e∉X.fs)(hnc:∀ v,oe.data≠.cell v):Inv (gx X e) ([]++[(e,oe)]) σ H s:=by
 have one:∀ {b:Addr},b∈(gx X e).ex->b=e:=fun z=>List.mem_singleton.mp z
 refine⟨⟨I.ok.mod,I.ok.kind,I.ok.glob,I.ok.blt,I.ok.above,I.ok.inj,I.ok.has,I.ok.cab,I.ok.hd,I.ok.frames,I.ok.stk,fun b z=>?_,I.ok.bs,I.ok.bsz,fun b o q z=>?_,fun b z=>?_,I.ok.funs,I.ok.frf,I.ok.tabs⟩,
  I.os,I.bare,?_,I.loc,I.cell,I.free,I.freeC,fun p hp=>?_,I.hok,I.len⟩
 ·rw[one z];exact⟨hne,hcl⟩
 ·rw[one z] at q;exact absurd (hb.symm.trans q) (by simp)
 ·rw[one z];exact hfs
 ·have u:Un X.fs X.ex X.H₀ H X.s₀.heap s.heap:=I.base
  rw[hex] at u
  exact⟨fun b o q n hb hx=>u.keep b o q n hb (by simp),fun b o q n hb hx=>u.slot b o q n hb (by simp),fun b o q n hx=>u.free b o q n (by simp),fun b o q hx=>u.there b o q (by simp),u.tups,u.frzs,u.tbls,u.tabs⟩
 ·have:p=(e,oe):=by
   rcases List.mem_append.mp hp with z | z
   ·rw[show (gx X e).pn=[] from hpn] at z;cases z
   ·simpa using z
  rw[this]
  exact⟨he,hn,hne,hfs,hnc⟩
theorem CY (hpn:X.pn=[])(hne:e≠X.env.locals)(hcl:∀ x c,X.env.cells.lookup x=some c->c≠e)(hfs:e∉X.fs):∀ H',H' e=none->b_ (gx X e) [] H' e:=fun H' h=>⟨h,hne,hfs,.inl (List.mem_singleton.mpr rfl),hcl,fun p hp=>by
 rcases List.mem_append.mp hp with z | z
 ·rw[show (gx X e).pn=[] from hpn] at z;cases z
 ·cases z⟩
end
theorem DO {CX:dU}{P:Program}{w:World}{K:PySem.W.Frag}{mg:Str->Option Value}{base:Heap}{k:Nat}{f:Addr}{name qual:Str}{params:Arguments}{body:List Stmt}{scope:Scope}{dV kV doc pm cdv ct oc:Value}{an od:Option Addr}
  {osl:Array (Option Value)} {N ps:List Str} (lk:K.lookup f=some ⟨oc,od,.func (PySem.W.fnOf name qual params body scope dV kV doc pm an cdv ct),osl⟩) (hcd:PySem.W.codeIn K cdv qual=true) (S:bp N ps scope)
  {A:Around} {outer:List Env} {s:Shared} {H:Hp} {E:XK} {us:List Value} {vs:List V} {R:Result->Shared->Prop} {e:Addr} {oe:Obj} (hr:ba (k+1) A) (e0:dH P w K mg base A outer s H)
  (hb:BindsTo s (PySem.W.fnOf name qual params body scope dV kV doc pm an cdv ct) ⟨us,[]⟩ (ps.zip us)) (r:aG vs us) (hl:vs.length=ps.length)
  (he:s.heap.get? e=some oe) (hn:H e=none) (hbe:base.get? e=none) (hfs:e∉cG outer) (hnc:∀ v,oe.data≠.cell v)
  (hbody:∀ s1,Inv (gx (cV CX P w K mg base N qual scope f cdv A outer s H E) e) ([]++[(e,oe)]) (start N vs) H s1->(∀ H',H' e=none->b_ (gx (cV CX P w K mg base N qual scope f cdv A outer s H E) e) [] H' e) ->
   wpAny (model P w) (A.deeper (envOfC qual scope s.heap.objs.size f cdv)) (execs body (envOfC qual scope s.heap.objs.size f cdv)) (fun fl s'=>fl=.next∧R (.ok (.ret .none)) s') (gx (cV CX P w K mg base N qual scope f cdv A outer s H E) e).xe s1)
  (hxe:∀ e' s',(gx (cV CX P w K mg base N qual scope f cdv A outer s H E) e).xe e' s'->wpAny (model P w) (A.deeper (envOfC qual scope s.heap.objs.size f cdv)) (leaving (envOfC qual scope s.heap.objs.size f cdv) e') (fun _ s''=>R (.error e') s'') (fun e'' s''=>R (.error e'') s'') s') :
  codeAny (model P w) A (.call (.ref f) ⟨us,[]⟩) R s:=by
 have base_kept:∀ b o,base.get? b=some o->s.heap.get? b=some o:=fun b o q=>(e0.bs b o q).1
 have KX:=e0.mod.kin.keeps base_kept
 have kinds:∀ y∈ps.zip us,_:=fun y hy=>(S.par y.1 (List.of_mem_zip hy).1).elim (fun q=>Or.inl (b:=scope.names.lookup y.1=some .cell∧((cellsFrom (s.heap.objs.size+1) scope.names []).lookup y.1).isSome=true) q) fun q=>.inr ⟨q,PySem.W.cellsFrom_some _ _ _ (.inl q)⟩
 refine codeAny_call_function hr.depth (KX _ _ lk) rfl S.co S.gen rfl (PySem.W.codeRec_of KX hcd) (hb _ _ _ _ (wpAny_newFunctionEnv_cells S.kind kinds fun env same s1 x=>?_))
 subst same
 refine⟨(e0.mod.nolimit.keeps base_kept).keeps x.toInCall.keep,codeAny_func ?_⟩
 have I0:=wR (CX:=CX) (E:=E) S hr.hd e0 hl r x
 have hlt:e<s.heap.objs.size:=Heap.lt_size he
 have hne:e≠(cV CX P w K mg base N qual scope f cdv A outer s H E).env.locals:=Nat.ne_of_lt hlt
 have hcl:∀ y c,(cV CX P w K mg base N qual scope f cdv A outer s H E).env.cells.lookup y=some c->c≠e:=fun y c q z=>by
  have:=x.above y c (PySem.mem_of_lookup q)
  rw[z] at this
  exact absurd (Nat.lt_trans hlt this) (Nat.lt_irrefl _)
 have IE:=Inv.addEx I0 rfl rfl (x.toInCall.keep _ _ he) hn hne hcl hbe hfs hnc
 refine wpAny_mono (hbody s1 IE (CY rfl hne hcl hfs)) (fun fl s' hs=>?_) fun e' s' hs=>hxe e' s' hs
 revert hs
 refine fun zqq=>L2.kv zqq fun zq0 hs=>?_
 clear zqq
 subst zq0
 exact hs
end L2
namespace L2
section
variable {env:Env}{M:Model}{A:Around}{E:Value->Shared->Prop}
variable {C N:Addr}{nm q:Str}{bs bm:List Value}{hdct:Bool}{sn:List Str}{sub:List Value}{ab:Bool}{col:Option Bool}{dd:Option Addr}{k0 k1 k2 k3 k5:Option Value}{newId:String}
theorem HG {s:Shared}{x:Sem Value}{Q:Flow->Shared->Prop}(hbase:bm.contains (.type "BaseException")=true)(hh:A.handled=none)
  (h:wpAny M A x (fun v s1=>∃ e oc od vs osl,v=.ref e∧s1.heap.get? C=some (excClassObj nm q C N bs bm hdct sn sub ab col dd k0 k1 k2 k3 k5 newId)∧s1.heap.get? e=some ⟨oc,od,.fields vs,osl⟩∧vs[1]?=some .none∧oc=.ref C∧E (.ref e) s1) E s) :
  wpAny M A (raiseStmt env (some x) none) Q E s:=by
 have known:(Value.ref C::bm).contains (.type "BaseException")=true:=by rw[List.contains_cons,hbase,Bool.or_true]
 unfold raiseStmt
 refine wpAny_bind (wpAny_mono h (fun v s1 z=>?_) fun _ _ y=>y)
 revert z
 refine fun zqq=>L2.Fp zqq fun e oc od vs osl zq5 hCl he hv zq9 hE=>?_
 clear zqq
 subst zq5
 subst zq9
 obtain⟨hp,g,d,tk,os⟩:=s1
 repeat (first | with_reducible refine wpAny_loadPart_at he ?_ | with_reducible refine wpAny_loadPart_at hCl ?_ | (with_reducible refine wpAny_isSubtype_exc hCl ?_;rw[known]) | wp_step)
 rw[hv]
 refine wpAny_pure ?_
 rw[if_neg (by decide)]
 exact wpAny_pure (wpAny_raiseNew_none hh hE)
end
section
variable {P:Program}{w:World}{A:Around}{E:Value->Shared->Prop}{s:Shared}{env:Env}
variable {C N:Addr}{nm q:Str}{bs bm bmB:List Value}{hdct:Bool}{sn:List Str}{sub:List Value}{ab:Bool}{col:Option Bool}{dd:Option Addr}{k0 k1 k2 k3 k5:Option Value}{B Bn newId nid initId inN:String}{bmN:List Value}
theorem HH (Fn:ExcBaseFacts Bn newId inN bmN)(hBn:bmB.contains (.type Bn)=true)(F:ExcBaseFacts B nid initId bmB){x:Str}{np cpos pos:Pos}{args:List Expr}{fI:Addr}{oI:Obj}{Q:Flow->Shared->Prop}
  (hbase:bm.contains (.type "BaseException")=true) (hh:A.handled=none) (hplain:(backTo cpos (starEach args env)).any (·.1)=false) (hfc:oI.cls=.type "function")
  (h:wpAny (model P w) A (eval (.Name x np) env) (fun f s1=>f=.ref C∧wpAny (model P w) A (evalArgs (.ref C) true (backTo cpos (starEach args env)) []) (fun a s2=>a.kw=[]∧a.pos.length≤sizeLine∧s2.heap.get? C=some (excClassObj nm q C N bs bm hdct sn sub ab col dd k0 k1 k2 k3 k5 newId)∧(∃ mN,s2.heap.Ns N mN∧mN "__init__"=some (.ref fI))∧OwnTail s2.heap bmB bm∧s2.heap.get? fI=some oI ∧
   ∀ h' e,Heap.MadeExcOf s2.heap h' e (.ref C) a.pos->s2.heap.objs.size≤e->wpAny (model P w) (A.under (.builtin "type.__call__" ⟨.ref C::a.pos,[]⟩)) (call (.ref fI) (.ref e::a.pos)) (fun r s3=>r=.none∧s3.heap.get? C=some (excClassObj nm q C N bs bm hdct sn sub ab col dd k0 k1 k2 k3 k5 newId)∧(∃ od vs osl,s3.heap.get? e=some ⟨.ref C,od,.fields vs,osl⟩∧vs[1]?=some .none)∧E (.ref e) s3) E {s2 with heap:=h' }) E s1) E s) :
  wpAny (model P w) A (exec (.Raise (some (.Call (.Name x np) args [] cpos)) none pos) env) Q E s:=by
 rw[arm_exec_Raise]
 refine wpAny_bind (wpAny_standAt (HG (C:=C) (nm:=nm) (q:=q) (N:=N) (bs:=bs) (bm:=bm) (hdct:=hdct) (sn:=sn) (sub:=sub) (ab:=ab) (col:=col) (dd:=dd) (k0:=k0) (k1:=k1) (k2:=k2) (k3:=k3) (k5:=k5) (newId:=newId) hbase hh (wpAny_bind (wpAny_mono (wpAny_Call_ofName (wpAny_mono h (fun f s1 z=>?_) fun _ _ y=>y)) (fun v s3 z=>wpAny_bind (wpAny_standAt (wpAny_pure z))) fun _ _ y=>y))))
 revert z
 refine fun zqq=>L2.kv zqq fun zq0 z=>?_
 clear zqq
 subst zq0
 unfold callWith
 refine wpAny_bind (wpAny_holding (wpAny_mono z (fun a s2 z=>wpAny_bind (wpAny_standAt ?_)) fun _ _ y=>y))
 obtain⟨ap,ak⟩:=a
 obtain⟨hkw,hlen,hCl,⟨mN,hn,hi⟩,T,hfI,z⟩:=z
 obtain rfl:ak=[]:=hkw
 obtain⟨hp,g,d,tk,os⟩:=s2
 simp only[hplain]
 refine wpAny_bind (wpAny_keeperOf_exc hCl (wpAny_bind (BO Fn hBn F T hCl hn hi hfI hfc (fun h' e hm hz=>wpAny_mono (z h' e hm hz) (fun r s3 y=>⟨y.1,wpAny_bind (wpAny_holding (wpAny_point (wpAny_pure ?_)))⟩) fun _ _ y=>y) hlen)))
 obtain⟨_,y1,⟨od,vs,osl,y2,y4⟩,y3⟩:=y
 exact ⟨e,_,od,vs,osl,rfl,y1,y2,y4,rfl,y3⟩
end
end L2
namespace L2
variable [Reg]
def qT:PyData->List (PyData×PyData)
 | .dict l=>l
 | _=>[]
def J4:PyData->List PyData
 | .tuple l=>l
 | _=>[]
def isStr (f:Str):PyData->Bool
 | .str n=>n==f
 | _=>false
def Ab (f:Str):List PyData->Option PyData
 | [n,d]=>if isStr f n=true then some d else none
 | _=>none
def CT (f:Str)(d:PyData):Option PyData:=Ab f (J4 ((qT d).getD 1 (.none,.none)).2)
theorem D4 {f:Str}{n:PyData}(h:isStr f n=true):n=.str f:=by
 cases n with
 | str x=>rw[show x=f from eq_of_beq h]
 | _=>exact L2.dF h
theorem J9 {f:Str}{l:List PyData}{r:PyData}(h:Ab f l=some r):l=[.str f,r]:=by
 rcases l with _ | ⟨a,_ | ⟨b,_ | ⟨c,l⟩⟩⟩
 ·exact L2.aQ h
 ·exact L2.aQ h
 ·have h':(if isStr f a=true then some b else none)=some r:=h
  by_cases q:isStr f a=true
  ·rw[if_pos q] at h';cases h';rw[D4 q]
  ·rw[if_neg q] at h';cases h'
 ·exact L2.aQ h
def mI (K:PySem.W.Frag)(exs:List Str)(f:Str):Prop:=∀ cls∈exs,∀ C,PySem.W.nsIn K mainGlobals cls=some (some (.ref C))->i9 K C∧PySem.W.findIn K (.ref C) f=some none
def wt (K:PySem.W.Frag)(exs:List Str)(f:Str):Bool:=exs.all fun cls=>match PySem.W.nsIn K mainGlobals cls with
 | some (some (.ref C))=>iR K C&&PySem.W.findIn K (.ref C) f==some none
 | _=>true
theorem CU {K:PySem.W.Frag}{exs:List Str}{f:Str}(h:wt K exs f=true):mI K exs f:=by
 intro cls hc C hn
 have:=List.all_eq_true.mp h cls hc
 rw[hn] at this
 dsimp only at this
 rw[Bool.and_eq_true] at this
 exact⟨we this.1,eq_of_beq this.2⟩
def D7:PyData->Bool
 | .bool b=>b
 | _=>false
def isIn (exs:List Str):PyData->Bool
 | .str c=>exs.contains c
 | _=>false
def DL (exs:List Str)(d:PyData):Bool:=D7 ((qT d).getD 0 (.none,.none)).1&&isIn exs ((qT d).getD 0 (.none,.none)).2
theorem Fc {fv:List (Str×V)}{K:PySem.W.Frag}{H:Hp}{fd:List PyData}{n d:PyData}(e:ku fv++fd=[n,d])(D:ar K H (fv.map (·.2)) fd):∃ m w,fv=[(m,w)]∧n=.str m∧az K H w d:=by
 rcases fv with _ | ⟨⟨m,w⟩,_ | ⟨p2,fv⟩⟩
 ·cases D;cases e
 ·cases D with
  | cons D1 D2=>cases D2;cases e;exact⟨m,w,rfl,rfl,D1⟩
 ·have h1:=congrArg List.length e
  have h2:=D.length
  rw[List.length_append,show (ku ((m,w)::p2::fv)).length=fv.length+2 from List.length_map _] at h1
  rw[List.length_map] at h2
  have h2':fv.length+2=fd.length:=h2
  have h1':fv.length+2+fd.length=2:=h1
  omega
section
variable {X:Cx}{O:Ow}{a:Expr}{fa:aa->Option PyData}{pos:Pos}{f:Str}{exs:List Str}
theorem Dk {pins:List (Addr×Obj)}{σ:St}{H:Hp}{s:Shared}{e:Addr}{cls:Str}{v:V}{b:Bool}{A:Around}{E Q:Value->Shared->Prop}(I:Inv X pins σ H s)(h:i_ X.K H e cls [(f,v)])(c:mI X.K exs f)(hc:cls∈exs)
  (hq:∀ u s',Inv X pins σ H s'->RelV v u->Q u s'):wpAny (model X.prog X.w) A (getAttr (.ref e) f b) Q E s:=by
 obtain⟨oe,C,vs,h1,h2,h3,h4,h5⟩:=h
 obtain⟨q,_⟩:=(show c9 X.prog X.w H s.heap e (.frz oe _) from I.hok e _ h1)
 have hn:PySem.W.notCls oe=true:=by unfold PySem.W.notCls;rw[h3]
 rcases h5 with ⟨h5,_⟩ | ⟨dx,h5,h6⟩
 ·cases h5
 obtain⟨mA,hns,hl⟩:=(show ∃ mA,s.heap.Ns1 dx mA∧∀ g,iG (List.lookup g [(f,v)]) (mA g) from I.hok dx _ h6)
 obtain⟨od,ho,hlo⟩:=xS hns
 have J:PySem.W.InstAt s.heap e oe C (some od):=⟨q,h2,hn,by rw[h5];exact ho⟩
 obtain⟨k,hf⟩:=c cls hc C h4
 obtain⟨u,hu,ru⟩:=iG.some_of (v:=v) (o:=mA f) (by have:=hl f;rwa [List.lookup_cons,beq_self_eq_true] at this)
 have hfo:PySem.W.findObj X.K C (some od) f=some (.value u):=PySem.W.findObj_own k.hd hf rfl (by rw[hlo,hu])
 unfold getAttr
 exact wpAny_bind (wpAny_mkText (wg (s:={s with toks:=s.toks+1}) I.kIn J k (Dq ru) (fun {A' E' P} hp=>CK (s:={s with toks:=s.toks+1}) I.kIn J hfo hp) (hq u _ (I.tok _) ru)))
def iS (exs:List Str)(f:Str)(d:PyData):Option PyData:=if DL exs d=true then CT f d else none
theorem HD (c:mI X.K exs f)(ha:PR X O a fa)(hb:attributeBase a f X.env (eval a X.env)=eval a X.env:=by rfl):PR X O (.Attribute a f pos) (fun ρ=>(fa ρ).bind (iS exs f)):=by
 intro pins s σ H Q I zpat
 obtain⟨hid,H0,ρ,ow,r,E,hf,k⟩:=zpat
 obtain⟨d,h1,h2⟩:=bind_some hf
 refine Bo hb (aI (ha pins s σ H (fun x H1=>aj H H1∧az X.K (ah H1 hid) x d) I ⟨hid,H0,ρ,ow,d,E,h1,fun x H1 s1 D1=>⟨s1,D1⟩⟩) fun u s1 zpat=>?_)
 obtain⟨x,H1,I1,rx,sm,D1⟩:=zpat
 unfold iS at h2
 split at h2
 case isFalse=>cases h2
 rename_i hin
 have key:∃ e cls w,x=.ref e∧i_ X.K (ah H1 hid) e cls [(f,w)]∧cls∈exs∧az X.K (ah H1 hid) w r:=by
  cases D1 with
  | @exc e cls fv fd hv hr=>
   have hm:cls∈exs:=List.contains_iff_mem.mp hin
   have e2:ku fv++fd=[.str f,r]:=J9 h2
   obtain⟨m,w,rfl,e3,Dw⟩:=Fc e2 hr
   cases e3
   exact⟨e,cls,w,rfl,hv,hm,Dw⟩
  | _=>exact L2.dF hin
 obtain⟨e,cls,w,rfl,hv,hm,Dw⟩:=key
 obtain rfl:u=Value.ref e:=rx
 exact Dk I1 (hv.mono (bA _ _)) c hm fun u s2 I2 ru=>⟨w,H1,I2,ru,k w H1 sm Dw⟩
end
end L2
namespace L2
variable [Reg]
inductive nE (K:PySem.W.Frag)(C fI:Addr):Prop
 | mk (nm q:Str) (N:Addr) (bs bm:List Value) (hdct:Bool) (sn:List Str) (sub:List Value) (ab:Bool) (col:Option Bool) (dd:Option Addr) (k0 k1 k2 k3 k5:Option Value) (ob:Obj) (l:K.lookup C=some ob) (eo:ob=excClassObj nm q C N bs bm hdct sn sub ab col dd k0 k1 k2 k3 k5 "ValueError.__new__") (t:PySem.W.tailIn K fm bm=true) (o:PySem.W.nsOkIn K N=true) (i:PySem.W.nsIn K N "__init__"=some (some (.ref fI))):nE K C fI
theorem nE.of {K:PySem.W.Frag}{C fI:Addr}{nm q:Str}{N:Addr}{bs bm:List Value}{hdct:Bool}{sn:List Str}{sub:List Value}{ab:Bool}{col:Option Bool}{dd:Option Addr}{k0 k1 k2 k3 k5:Option Value}{ob:Obj}(l:K.lookup C=some ob)(eo:ob=excClassObj nm q C N bs bm hdct sn sub ab col dd k0 k1 k2 k3 k5 "ValueError.__new__")(t:PySem.W.tailIn K fm bm=true)(o:PySem.W.nsOkIn K N=true)(i:PySem.W.nsIn K N "__init__"=some (some (.ref fI))):nE K C fI:=⟨nm,q,N,bs,bm,hdct,sn,sub,ab,col,dd,k0,k1,k2,k3,k5,ob,l,eo,t,o,i⟩
structure gp (K:PySem.W.Frag)(x:Str)(C fI:Addr):Prop where
 ns:PySem.W.nsIn K mainGlobals x=some (some (.ref C))
 ex:nE K C fI
inductive uG (h:Heap)(C fI:Addr):Prop
 | mk (nm q:Str) (N:Addr) (bs bm:List Value) (hdct:Bool) (sn:List Str) (sub:List Value) (ab:Bool) (col:Option Bool) (dd:Option Addr) (k0 k1 k2 k3 k5:Option Value) (mN:Str->Option Value) (hC:h.get? C=some (excClassObj nm q C N bs bm hdct sn sub ab col dd k0 k1 k2 k3 k5 "ValueError.__new__")) (hN:h.Ns N mN) (hi:mN "__init__"=some (.ref fI)) (T:OwnTail h fm bm):uG h C fI
theorem yn {K:PySem.W.Frag}{h:Heap}{N:Addr}{m:Str->Option Value}{x:Str}{v:Value}(Xk:K.In h)(G:h.Ns N m)(e:PySem.W.nsIn K N x=some (some v)):m x=some v:=by
 obtain⟨o,es,ep,ho,hd,_,hf⟩:=G
 unfold PySem.W.nsIn at e
 split at e
 ·rename_i o' ho'
  have:=Xk _ _ ho'
  rw[ho] at this
  cases this
  cases hd
  split at e
  ·rename_i en he
   cases e
   have:=hf x
   unfold nsFind findBy at this
   rw[← Array.find?_toList,he] at this
   exact this.symm
  ·split at e <;> cases e
 ·cases e
theorem gp.obj {K:PySem.W.Frag}{h:Heap}{x:Str}{C fI:Addr}(o:gp K x C fI)(Xk:K.In h):uG h C fI:=by
 obtain⟨nm,q,N,bs,bm,hdct,sn,sub,ab,col,dd,k0,k1,k2,k3,k5,ob,h1,rfl,h2,h3,h4⟩:=o.ex
 have hN:h.Ns N _:=.of_isNs (PySem.W.isNs_of_in Xk h3)
 exact⟨nm,q,N,bs,bm,hdct,sn,sub,ab,col,dd,k0,k1,k2,k3,k5,_,Xk _ _ h1,hN,yn Xk hN h4,PySem.W.tail_of_in Xk h2⟩
inductive uy (P:Program)(w:World)(outer:List Env)(e:Addr)(oe:Obj)(f:Str)(v:V)(H:Hp)(s:Shared)(r:Result)(s':Shared):Prop
 | mk (t n:Addr) (H':Hp) (hr:r=.ok (.ret .none)) (os:s'.os=s.os) (bare:AllBare s'.gens) (un:Un (cG outer) [e] H H' s.heap s'.heap) (hok:cb P w H' s'.heap) (sm:aj H H') (new:H n=none) (dx:H' n=some (.xd [(f,v)])) (fre:H' e=none)
  (he:s'.heap.get? e=some { (oe.mapFields (·.setIfInBounds 0 (.ref t))) with dict:=some n}):uy P w outer e oe f v H s r s'
def jf (P:Program)(w:World)(K:PySem.W.Frag)(mg:Str->Option Value)(base:Heap)(k:Nat)(fI C:Addr)(f:Str)(G:V->Hp->Prop):Prop:=
 ∀ (A:Around) (outer:List Env) (s:Shared) (H:Hp) (e:Addr) (oe:Obj) (vs:Array Value) (v:V) (u:Value),ba k A->dH P w K mg base A outer s H->s.heap.get? e=some oe->oe.cls=.ref C->oe.dict=none->oe.data=.fields vs->0<vs.size->H e=none->base.get? e=none->e∉cG outer->RelV v u->G v H ->
  codeAny (model P w) A (.call (.ref fI) ⟨[.ref e,u],[]⟩) (uy P w outer e oe f v H s) s
def j0 (v:V)(_:Hp):Prop:=∃ i:Int,v=.int i∧i.natAbs.log2<1920
structure A0 (X:Cx)(B self y:Str)(CP:Addr)(b:Expr)(tb:TE)(np apos cpos ap sp vp:Pos):Prop where
 bi:pL X B CP
 tx:PE X b tb
 s1:PE X (.Name self ap) (fG 0)
 s2:PE X (.Name self sp) (fG 0)
 va:PE X (.Name y vp) (fG 1)
 st:starEach [.Name self ap,b] X.env=(false,eval (.Name self ap) X.env)::starEach [b] X.env
 st2:starEach [b] X.env=(false,eval b X.env)::starEach [] X.env
 pl:(backTo cpos (starEach [b] X.env)).any (·.1)=false
 ev:∃ pl:Sem Bool,eval (.Call (.Attribute (.Name B np) "__init__" apos) [.Name self ap,b] [] cpos) X.env=(do
  let ov ← eval (.Name B np) X.env
  standAt apos.atName
  let (f,first) ← holding [ov] (getMethod ov "__init__" pl)
  callWith cpos f first (backTo cpos (starEach [.Name self ap,b] X.env)) (backToKw cpos (keywordEach [] X.env)))
section
variable {P:Program}{w:World}{K:PySem.W.Frag}{mg:Str->Option Value}{base:Heap}{k:Nat}{C CP fI:Addr}{fd:FuncData}{x B f qual self y:Str}{st:Stmt}{np apos cpos pos1 pos2 fpos ap sp vp:Pos}
theorem wO {b:Expr}{tb:TE}{G:V->Hp->Prop}(o:gp K x C fI)(F:aZ K "__init__" qual st fI fd)(S:bp [self,y] [self,y] (aL st))(hb:Binds K fd [self,y] [])(kf:jY K C f)
  (hst:cW st=[.Expr (.Call (.Attribute (.Name B np) "__init__" apos) [.Name self ap,b] [] cpos) pos1,.Assign [.Attribute (.Name self sp) f fpos] (.Name y vp) pos2])
  (hsw:∀ env,swapsWith (.Call (.Attribute (.Name B np) "__init__" apos) [.Name self ap,b] [] cpos) none pos1.line env=pure false) (hsw2:∀ env,swapsWith (.Name y vp) (some (.Attribute (.Name self sp) f fpos)) pos2.line env=pure false)
  (hbody:∀ (e:Addr) (cdv:Value) (A:Around) (outer:List Env) (s:Shared) (H:Hp),ba k (A.deeper (envOfC qual (aL st) s.heap.objs.size fI cdv))->A0 (gx (cV bc P w K mg base [self,y] qual (aL st) fI cdv A outer s H E0) e) B self y CP b tb np apos cpos ap sp vp)
  (htb:∀ (e:Addr) (v:V) (H:Hp),G v H->∀ Q:VK,(∀ txt H',aj H H'->Q (.str txt) H')->tb [some (.ref e),some v] H Q) (hdb:(B==("__debug__":Str))=false:=by decide):jf P w K mg base (k+1) fI C f G:=by
 intro A outer s H e oe vs v u hr e0 he hcl hdi hdat hz hn hbe hfs rv hG
 obtain⟨oc,od,kV,doc,pm,an,cdv,ct,osl,rfl,lk,hcd⟩:=F.ex
 refine DO (CX:=bc) (E:=E0) (vs:=[.ref e,v]) lk hcd S hr e0 ?_ (.cons rfl (.cons rv .nil)) rfl he hn hbe hfs (fun z q=>by rw[hdat] at q;cases q) (fun s1 I1 fp=>?_) fun e' s' z=>wpAny_mono z (fun _ _ y=>y.elim) fun _ _ y=>y.elim
 ·have:=hb s [.ref e,u] (e0.mod.kin.keeps fun b q z=>(e0.bs b q z).1) rfl
  rwa [List.append_nil] at this
 rw[hst]
 have B0:=hbody e cdv A outer s H (hr.deeper _)
 obtain⟨bbi,btx,bs1,bs2,bva,bst,bst2,bpl,pl,hev⟩:=B0
 refine wpAny_mono (DN (pins:=[]) (oe:=oe) (y:=v) (Q:=fun n H1=>aj H H1∧H n=none∧H1 n=some (.xd [(f,v)])) bbi kf (pa_cons bs1 (pa_cons btx pa_nil bst2) bst) bs2 bva I1 (fun {s' H' oe'} J=>?_) hcl hdi hdat hz fp ?_ bst bpl hdb (hsw _) (hsw2 _) pl hev) (fun fl s' q=>?_) fun _ _ z=>z
 ·obtain⟨nm,q,N,bs,bm,hdct,sn,sub,ab,col,dd,k0,k1,k2,k3,k5,mN,hC,hN,hi,T⟩:=o.obj J.kIn
  exact⟨nm,q,N,bs,bm,hdct,sn,sub,ab,col,dd,k0,k1,k2,k3,k5,_,hC,T⟩
 ·refine⟨.ref e,rfl,htb e v H hG _ fun txt H1 sm1=>⟨txt,rfl,v,rfl,rfl,.ref e,rfl,rfl,fun n hn1=>⟨fun a oo q=>?_,sm1.free hn1,bC⟩⟩⟩
  rw[aD (bV (sm1 _ _ q) hn1)];exact sm1 _ _ q
 ·obtain⟨rfl,H1,t,n,I2,sm,hn',hx'⟩:=q
  obtain⟨p1,p2,_⟩:=I2.pin (e,_) (List.mem_append_right _ (List.mem_append_right _ (List.mem_singleton.mpr rfl)))
  exact⟨rfl,t,n,H1,rfl,I2.os,I2.bare,I2.base,I2.hok,sm,hn',hx',p2,p1⟩
end
section
variable {X:Cx}{O:Ow}{x f:Str}{C fI:Addr}{np cpos pos:Pos}{a:Expr}{ta:TE}{k:Nat}{G:V->Hp->Prop}
theorem Hf {oI:Obj}(hc:X.calm=true)(hex:X.ex=[])(hg:Gl X x)(hm:X.mg x=some (.ref C))(o:gp X.K x C fI)(lk:X.K.lookup fI=some oI)(hfc:oI.cls=.type "function")(hI:jf X.prog X.w X.K X.mg X.base k fI C f G)(hr:ba (k+1) X.A)(ha:PE X a ta)
  (hdb:(x==("__debug__":Str))=false:=by decide) (he:starEach [a] X.env=(false,eval a X.env)::starEach [] X.env:=by rfl) (hpl:(backTo cpos (starEach [a] X.env)).any (·.1)=false:=by rfl) :
  PS X (.Raise (some (.Call (.Name x np) [a] [] cpos)) none pos) (fun D σ H=>ta σ H fun v H1=>G v H1∧∀ pins s' e n H2,Inv X pins σ H2 s'->aj H1 H2->H1 n=none->H2 n=some (.xd [(f,v)])->gL X pins H2 s' e C (some n)->X.xe (.ref e) s'):=by
 intro pins s σ H D I h
 obtain⟨nmx,qx,Nx,bsx,bmx,hdctx,snx,subx,abx,colx,ddx,x0,x1,x2,x3,x5,ob,e1,rfl,e2,e3,e4⟩:=o.ex
 refine HH (C:=C) (nm:=nmx) (q:=qx) (N:=Nx) (bs:=bsx) (bm:=bmx) (hdct:=hdctx) (sn:=snx) (sub:=subx) (ab:=abx) (col:=colx) (dd:=ddx) (k0:=x0) (k1:=x1) (k2:=x2) (k3:=x3) (k5:=x5) (fI:=fI) (oI:=oI)
  F.excBase_ValueError (by decide) F.excBase_ValueError ((PySem.W.tail_of_in I.kIn e2).hasType F.excBase_ValueError.hasBase) (I.ok.hd hc) hpl hfc (jx I hg hm ⟨rfl,?_⟩ hdb)
 have hA:=(pa_cons ha pa_nil he:PA X [a] (o9 ta tF)) cpos pins s σ H (fun ws H1=>match ws with
  | [v]=>G v H1∧∀ pins s' e n H2,Inv X pins σ H2 s'->aj H1 H2->H1 n=none->H2 n=some (.xd [(f,v)])->gL X pins H2 s' e C (some n)->X.xe (.ref e) s'
  | _=>False) I h
 rw[he] at hA ⊢
 refine Calls.evalArgs_plain (aI hA fun us s2 zpat=>?_)
 obtain⟨ws,H2,I2,r2,hG⟩:=zpat
 cases r2 with
 | nil=>exact hG.elim
 | cons rv r2=>
  cases r2 with
  | cons _ _=>exact hG.elim
  | nil=>?_
  obtain⟨hG,kk⟩:=hG
  rename_i u
  have hNs:s2.heap.Ns Nx _:=.of_isNs (PySem.W.isNs_of_in I2.kIn e3)
  refine⟨rfl,by show 1≤sizeLine;decide,I2.kIn _ _ e1,⟨_,hNs,yn I2.kIn hNs e4⟩,PySem.W.tail_of_in I2.kIn e2,I2.kIn _ _ lk,fun h' e hmd hsz=>?_⟩
  have I3:Inv X pins σ H2 {s2 with heap:=h' }:=I2.kept (t':=s2.toks) hmd.keeps
  obtain⟨t,ht,_,_⟩:=hmd.there
  obtain⟨n1,n2,n3⟩:=I2.none_of hex hmd.new
  have nb:X.base.get? e=none:=by
   cases q:X.base.get? e with
   | none=>rfl
   | some oo=>exact absurd (hmd.new.symm.trans (I2.bs e oo q).1) (by simp)
  have nf:e∉cG X.stack:=fun z=>by
   obtain⟨_,oo,ho,_⟩:=I2.stack.mem z
   exact absurd (hmd.new.symm.trans ho) (by simp)
  refine wpAny_call (codeAny_mono (hI _ X.stack _ H2 e _ _ _ u (hr.make C _ _) (I3.env0.make C _ _) ht rfl rfl rfl (by show 0<6;decide) n1 nb nf rv hG) fun r s4 zpat=>?_)
  obtain⟨t',n,H4,rfl,os,bare,un,hok,sm,hn,hdx,hfre,he4⟩:=zpat
  have hloc:e≠X.env.locals:=fun z=>by
   obtain⟨m,⟨oo,_,_,ho,_⟩,_⟩:=I2.loc
   rw[← z] at ho
   exact absurd (hmd.new.symm.trans ho) (by simp)
  have hcel:∀ y c,X.env.cells.lookup y=some c->c≠e:=fun y c q z=>by
   obtain⟨_,oo,ho,_⟩:=I2.cell y c q
   rw[z] at ho
   exact absurd (hmd.new.symm.trans ho) (by simp)
  have I4:Inv X pins σ H4 s4:=I3.call' os un hok bare fun b hb=>by
   rw[List.mem_singleton.mp hb]
   exact⟨.inr (Nat.le_trans I2.sz hsz),hloc,hcel,n3⟩
  refine⟨rfl,I4.kIn _ _ e1,⟨_,_,_,he4,rfl⟩,kk pins s4 e n H4 I4 sm hn hdx ⟨⟨⟨_,_,he4,rfl,rfl,rfl,.inl rfl⟩,hfre,n2⟩,n3⟩⟩
def kC (cls f:Str)(ρ:aa)(d:Option PyData):Option bf:=d.bind fun d=>match d with
 | .int i=>if i.natAbs.log2<1920 then some (.ex (bF cls [.str f,.int i]) ρ) else none
 | _=>none
theorem Kt {oI:Obj}{fa:aa->Option PyData}(hc:X.calm=true)(hex:X.ex=[])(hg:Gl X x)(hm:X.mg x=some (.ref C))(o:gp X.K x C fI)(lk:X.K.lookup fI=some oI)(hfc:oI.cls=.type "function")(hI:jf X.prog X.w X.K X.mg X.base k fI C f j0)(hr:ba (k+1) X.A)(ha:PV X O a fa)
  (hdb:(x==("__debug__":Str))=false:=by decide) (he:starEach [a] X.env=(false,eval a X.env)::starEach [] X.env:=by rfl) (hpl:(backTo cpos (starEach [a] X.env)).any (·.1)=false:=by rfl) :
  gU X O (.Raise (some (.Call (.Name x np) [a] [] cpos)) none pos) (fun ρ=>kC x f ρ (fa ρ)):=(Hf hc hex hg hm o lk hfc hI hr ha hdb he hpl).imp fun D σ H zpat=>by
 obtain⟨hid,H0,ρ,ow,out,E,hf,kk⟩:=zpat
 obtain⟨d,g1,g2⟩:=bind_some hf
 refine⟨hid,H0,ρ,ow,d,E,g1,fun v H1 s1 Dv=>?_⟩
 cases d with
 | int i=>
  dsimp only at g2
  split at g2
  case isFalse=>cases g2
  rename_i hlog
  cases g2
  obtain rfl:v=.int i:=by cases Dv;rfl
  refine⟨⟨i,rfl,hlog⟩,fun pins s' e n H2 I2 sm hn hdx fl=>?_⟩
  have E2:=(E.mono s1).mono sm
  refine kk pins s' σ H2 ow e C (some n) I2 (aY (s1.trans sm) _) E2 fl ⟨x,[(f,.int i)],[.int i],rfl,o.ns,.inr ⟨n,rfl,?_⟩,.cons (.int i) .nil⟩
  rw[bb ((E.mono s1).fresh hn)]
  exact hdx
 | _=>cases g2
end
end L2
namespace L2
variable [Reg]
def j_ (P:Program)(w:World)(K:PySem.W.Frag)(mg:Str->Option Value)(base:Heap)(k:Nat)(x f:Str):Prop:=
 ∃ C fI oI,mg x=some (.ref C)∧gp K x C fI∧K.lookup fI=some oI∧oI.cls=.type "function"∧jf P w K mg base k fI C f j0
theorem Af {X:Cx}{O:Ow}{x f:Str}{np cpos pos:Pos}{a:Expr}{k:Nat}{fa:aa->Option PyData}(hc:X.calm=true)(hex:X.ex=[])(hg:Gl X x)(G:j_ X.prog X.w X.K X.mg X.base k x f)(hr:ba (k+1) X.A)(ha:PV X O a fa)
  (hdb:(x==("__debug__":Str))=false:=by decide) (he:starEach [a] X.env=(false,eval a X.env)::starEach [] X.env:=by rfl) (hpl:(backTo cpos (starEach [a] X.env)).any (·.1)=false:=by rfl) :
  gU X O (.Raise (some (.Call (.Name x np) [a] [] cpos)) none pos) (fun ρ=>kC x f ρ (fa ρ)):=by
 obtain⟨C,fI,oI,h1,h2,h3,h4,h5⟩:=G
 exact Kt hc hex hg h1 h2 h3 h4 h5 hr ha hdb he hpl
theorem DU {a:Int}(h:a.natAbs.log2<1920):(Str.ofString (toString a)).length≤10000:=by
 have e:=int_text_length_le (k:=1920) (by decide) h
 rw[PySem.ofString_length];omega
theorem z6 {t1 t2:Str}(h1:t1.length≤10000)(h2:t2.length≤10000)(e:Addr)(v:V)(H:Hp)(hG:j0 v H)(Q:VK)(q:∀ txt H',aj H H'->Q (.str txt) H'):zZ (tC (.str t1)) (zY (fG 1)) (tC (.str t2)) [some (.ref e),some v] H Q:=by
 obtain⟨i,rfl,hi⟩:=hG
 exact⟨t1,rfl,h1,.int i,rfl,i,rfl,hi,_,rfl,DU hi,t2,rfl,h2,q _ H (aj.refl H)⟩
structure pM (K:PySem.W.Frag)(mg:Str->Option Value)(b:Str)(CP:Addr):Prop where
 mg:mg b=some (.ref CP)
 rd:PySem.W.readsIn K CP (.type "type")=true
 fc:PySem.W.findCls K (.ref CP) (.type "type") "__init__"=some (.val (.builtin "ValueError.__init__"))
 sp:PySem.W.specialIn K (.ref CP) "__getattribute__"=some (some (.builtin "type.__getattribute__"))
inductive ly (K:PySem.W.Frag)(x b f:Str)(st:Stmt):Prop
 | mk (C fI CP:Addr) (fd:FuncData) (o:gp K x C fI) (F:aZ K "__init__" (x++".__init__") st fI fd) (fn:PySem.W.isFn K (.ref fI)=true) (fl:jY K C f) (nb:PySem.W.nsIn K mainGlobals b=some (some (.ref CP))) (rd:PySem.W.readsIn K CP (.type "type")=true)
  (fc:PySem.W.findCls K (.ref CP) (.type "type") "__init__"=some (.val (.builtin "ValueError.__init__"))) (sp:PySem.W.specialIn K (.ref CP) "__getattribute__"=some (some (.builtin "type.__getattribute__"))):ly K x b f st
theorem ly.ok {P:Program}{w:World}{K:PySem.W.Frag}{mg:Str->Option Value}{h base:Heap}{x b f:Str}{st:Stmt}{k:Nat}(a:ly K x b f st)(X:K.In h)(G:h.Ns mainGlobals mg)
  (q:∀ (C fI CP:Addr) (fd:FuncData),gp K x C fI->aZ K "__init__" (x++".__init__") st fI fd->jY K C f->pM K mg b CP->jf P w K mg base k fI C f j0):j_ P w K mg base k x f:=by
 obtain⟨C,fI,CP,fd,o,F,fn,fl,nb,rd,fc,sp⟩:=a
 have F':=F
 obtain⟨oc,od,kV,doc,pm,an,cdv,ct,osl,rfl,lk,hcd⟩:=F.ex
 have hfn:PySem.W.typeIn K (.ref fI)=some (.type "function"):=eq_of_beq fn
 have hoc:oc=.type "function":=by
  have:(K.lookup fI).map (·.cls)=some (.type "function"):=hfn
  rw[lk] at this
  exact Option.some.inj this
 exact⟨C,fI,_,PySem.W.mg_of X G o.ns,o,lk,hoc,q C fI CP _ o F' fl ⟨PySem.W.mg_of X G nb,rd,fc,sp⟩⟩
end L2
namespace L2
variable [Reg]
inductive gW where
 | ret (ds:List PyData) | exc (x:PyData)
def JZ (X:Cx)(O:Ow)(f:aa->Option gW):TA:=fun σ H Q=>dk X.K O f σ H fun hid H0 ρ ow r=>
 match r with
 | .ret ds=>∀ vs H',aj H H'->ar X.K (ah H' (uni hid ow)) vs ds->Q vs H'
 | .exc x=>∀ pins s' H' a C od,Inv X pins σ H' s'->aj H H'->gL X pins H' s' a C od->iI X.K (ah H' (uni hid ow)) C od x->X.xe (.ref a) s'
abbrev KL (X:Cx)(O:Ow)(es:List Expr)(f:aa->Option gW):Prop:=PA X es (JZ X O f)
def RX.one:RX->gW
 | .ret d=>.ret [d]
 | .exc x=>.exc x
def gW.cons (d:PyData):gW->gW
 | .ret ds=>.ret (d::ds)
 | .exc x=>.exc x
def gW.then (r:gW)(F:List PyData->Option RX):Option RX:=match r with
 | .ret ds=>F ds
 | .exc x=>some (.exc x)
def RX.ix (k:Int)(r:RX):Option RX:=match r with
 | .ret d=>(ay d (.int k)).map .ret
 | .exc x=>some (.exc x)
section
variable {X:Cx}{O:Ow}{e a b:Expr}{es:List Expr}{pos p:Pos}{f:aa->Option RX}{fs:aa->Option gW}{fa:aa->Option PyData}{k:Nat}{ps:List Str}{x:Str}{T:Ty}{F:List PyData->Option RX}
end
end L2
namespace L2
variable [Reg]
end L2
namespace L2
variable [Reg]
def tX (K:PySem.W.Frag)(O:Ow)(f:aa->Option (PyData×aa)):TE:=fun σ H Q=>dk K O f σ H fun hid H0 ρ ow r=>∀ v H',aE K O hid H0 σ H' r.2 ow->aj (ah H (uni hid ow)) (ah H' (uni hid ow))->az K (ah H' (uni hid ow)) v r.1->Q v H'
abbrev PX (X:Cx)(O:Ow)(e:Expr)(f:aa->Option (PyData×aa)):Prop:=PE X e (tX X.K O f)
section
variable {X:Cx}{O:Ow}{a b e:Expr}{fa fb:aa->Option PyData}{pos:Pos}
theorem PV.x (h:PV X O e fa):PX X O e (fun ρ=>(fa ρ).map fun d=>(d,ρ)):=h.imp fun σ H Q zpat=>by
 obtain⟨hid,H0,ρ,ow,r,E,hf,k⟩:=zpat
 obtain⟨d,h1,rfl⟩:=map_some hf
 exact⟨hid,H0,ρ,ow,d,E,h1,fun v H' s D=>k v H' (E.mono s) (aY s _) D⟩
end
end L2
namespace L2
variable [Reg]
section
variable {X:Cx}{O:Ow}{a b e:Expr}{fa fb:aa->Option PyData}{pos:Pos}{l:Addr}
end
inductive A5 (K:PySem.W.Frag)(j:Nat)(T:Ty)(F:List PyData->Option (PyData×List PyData))(vs:List V)(H:Hp)(Q:VK):Prop
 | mk (hid:Addr->Prop) (l:Addr) (ws:List V) (es0 ds:List PyData) (r:PyData×List PyData) (h1:∀ b,hid b->∃ vs:bP,H b=some vs.ho) (h2:¬ hid l) (h3:vs[j]?=some (.ref l)) (h4:H l=some (.lst ws)) (h5:ar K (ah H (uni hid [l])) ws es0)
  (h6:ds.length=vs.length) (h7:ds[j]?=some (.list es0)) (h8:∀ (i:Nat) (v:V) (d:PyData),i≠j->vs[i]?=some v->ds[i]?=some d->az K (ah H (uni hid [l])) v d) (h9:F ds=some r)
  (k:∀ v as H' ws',aj (ah H fun b=>b=l) H'->H' l=some (.lst ws')->ar K (ah H' (uni hid (l::as))) ws' r.2->(∀ p∈as,H p=none)->a_ K H' (ah H' (uni hid (l::as))) T v r.1 as->Q v H'):A5 K j T F vs H Q
inductive uW (K:PySem.W.Frag)(O:Ow)(l:Addr)(hid:Addr->Prop)(H0:Hp)(D:eV)(o:aq):Prop
 | mk (d:PyData) (es:List PyData) (e:o=.rt (.tuple [d,.list es]))
  (k:∀ v as H' ws',aj H0 H'->H' l=some (.lst ws')->ar K (ah H' (uni hid (l::as))) ws' es->(∀ p∈as,H0 p=none∧p≠l)->a_ K H' (ah H' (uni hid (l::as))) O.r v d as->D.rt v H'):uW K O l hid H0 D o
def tI (K:PySem.W.Frag)(O:Ow)(l:Addr)(F:aa->Option aq):TS:=fun D σ H=>dk K O F σ H fun hid H0 ρ ow o=>uW K O l hid H0 D o
abbrev KJ (X:Cx)(O:Ow)(l:Addr)(sts:List Stmt)(F:aa->Option aq):Prop:=cT X sts (tI X.K O l F)
section
variable {X:Cx}{O:Ow}{st:Stmt}{rest:List Stmt}{F G:aa->Option aq}{e:Expr}{f:aa->Option PyData}{pos:Pos}{l:Addr}{j:Nat}
end
end L2
namespace L2
variable [Reg]
section
variable {X:Cx}{O:Ow}{a:Expr}{es:List Expr}{pos p:Pos}{fa fs:aa->Option (List PyData)}{k:Nat}{ps:List Str}{x:Str}{T:Ty}{F:List PyData->Option (PyData×List PyData)}
end
end L2
namespace L2
variable [Reg]
section
variable {X:Cx}{O:Ow}{a b e:Expr}{fa fb f:aa->Option PyData}{pos p:Pos}
end
section
variable {K:PySem.W.Frag}{O:Ow}{hid:Addr->Prop}{H0 H H':Hp}{σ:St}{ρ:aa}{ow:List Addr}
end
section
variable {X:Cx}{O:Ow}{e:Expr}{f:aa->Option PyData}{pos:Pos}{T:Ty}
end
end L2
namespace L2
variable [Reg]
section
variable {X:Cx}{O:Ow}{a e:Expr}{fa f:aa->Option PyData}{pos p:Pos}{cls fld:Str}
end
theorem cn.cut {K:PySem.W.Frag}{G G':Hp}(e:∀ a o,G a=some o->(∀ C dx fs,o≠.ins C dx fs)->G' a=some o){a:Addr}{vs:List V}(q:cn K G a vs):cn K G' a vs:=by
 rcases q with (q | ⟨o,q⟩) | q
 ·exact .inl (.inl (e _ _ q fun _ _ _ z=>by cases z))
 ·exact .inl (.inr ⟨o,e _ _ q fun _ _ _ z=>by cases z⟩)
 ·exact .inr q
theorem az.cut {K:PySem.W.Frag}{G G':Hp}(e:∀ a o,G a=some o->(∀ C dx fs,o≠.ins C dx fs)->G' a=some o){v:V}{d:PyData}(z:az K G v d):lf d=true->az K G' v d:=
 az.rec (motive_1:=fun v d _=>lf d=true->az K G' v d) (motive_2:=fun vs ds _=>lf.go ds=true->ar K G' vs ds) (fun _=>.non) (fun b _=>.bl b) (fun i _=>.int i) (fun x _=>.str x) (fun q _ r h=>.tup (q.cut e) (r h)) (fun _ _ _ h=>by cases h) (fun _ _ _ h=>by cases h) (fun _ _ _ h=>by cases h) (fun _ _ _ h=>by cases h) (fun _=>.nil) (fun _ _ a b h=>by rw[lf.go,Bool.and_eq_true] at h;exact .cons (a h.1) (b h.2)) z
inductive KB (K:PySem.W.Frag)(x:Addr)(f1 f2:Str)(B:aa->Option (PyData×PyData))(D:eV)(σ:St)(H:Hp):Prop
 | mk (hid:Addr->Prop) (H0:Hp) (ρ:aa) (r:PyData×PyData) (C dx:Addr) (E:aE K O0 hid H0 σ H ρ []) (hx:σ[0]?=some (some (.ref x))) (hH:H x=some (.ins C dx [])) (hc:mB K C) (n1:uE K C f1) (n2:uE K C f2) (hB:B ρ=some r) (l1:lf r.1=true) (l2:lf r.2=true)
  (k:∀ σ' H' v1 v2,aj (ah H fun b=>b=x) H'->H' x=some (.ins C dx [(f1,v1),(f2,v2)])->az K (ah H' fun b=>hid b∨b=x) v1 r.1->az K (ah H' fun b=>hid b∨b=x) v2 r.2->D.nx σ' H'):KB K x f1 f2 B D σ H
section
variable {X:Cx}{e:Expr}{st:Stmt}{rest:List Stmt}{f:aa->Option PyData}{pos:Pos}{x:Addr}{f1 f2:Str}{B:aa->Option (PyData×PyData)}
end
inductive uS (K:PySem.W.Frag)(cls f1 f2:Str)(F:List PyData->Option (PyData×PyData))(vs:List V)(H:Hp)(Q:VK):Prop
 | mk (hid:Addr->Prop) (x dx C:Addr) (us:List V) (ds:List PyData) (r:PyData×PyData) (e:vs=.ref x::us) (hH:H x=some (.ins C dx [])) (hn:PySem.W.nsIn K mainGlobals cls=some (some (.ref C))) (h1:∀ b,hid b->∃ vs:bP,H b=some vs.ho) (D:ar K (ah H hid) us ds) (hF:F ds=some r)
  (k:∀ H' v1 v2,aj (ah H fun b=>b=x) H'->H' x=some (.ins C dx [(f1,v1),(f2,v2)])->az K (ah H' fun b=>hid b∨b=x) v1 r.1->az K (ah H' fun b=>hid b∨b=x) v2 r.2->Q .non H'):uS K cls f1 f2 F vs H Q
def zS (K:PySem.W.Frag)(cls f1 f2:Str)(F:List PyData->Option (PyData×PyData)):Sp:=fun vs H Q _=>uS K cls f1 f2 F vs H Q
def Aw (P:Program)(w:World)(K:PySem.W.Frag)(mg:Str->Option Value)(base:Heap)(k:Nat)(cls:Str)(ps:List Str)(f1 f2:Str)(F:List PyData->Option (PyData×PyData)):Prop:=
 ∃ C f fd,Mk K C f∧aS P w K mg base bc k f fd ps (zS K cls f1 f2 F)∧mg cls=some (.ref C)∧PySem.W.nsIn K mainGlobals cls=some (some (.ref C))∧Binds K fd ps []
section
variable {X:Cx}{O:Ow}{a:Expr}{es:List Expr}{pos p:Pos}{fs:aa->Option (List PyData)}{k:Nat}{ps:List Str}{cls f1 f2:Str}{F:List PyData->Option (PyData×PyData)}
end
end L2
namespace L2
variable [Reg]
section
variable {X:Cx}{O:Ow}{e:Expr}{f:aa->Option PyData}{T:Ty}
theorem dJ.v (h:dJ X O T e f):PV X O e f:=h.imp fun σ H Q zpat=>by
 obtain⟨hid,H0,ρ,ow,d,E,hf,k⟩:=zpat
 refine⟨hid,H0,ρ,ow,d,E,hf,fun v as H' s n D=>k v H' s (D.raw (fR fun b z=>?_) fun p hp o q=>?_)⟩
 ·rcases z with z | z
  ·exact .inl z
  ·exact .inr (List.mem_append_right _ z)
 ·rw[bb (E.fresh (n p hp))]
  exact q
theorem dJ.fc (h:dJ X O (.lst .cl) e f):bL X O e (fun ρ=>(f ρ).bind br):=h.imp fun σ H Q zpat=>by
 obtain⟨hid,H0,ρ,ow,ds,E,hf,k⟩:=zpat
 obtain⟨d,h1,h2⟩:=bind_some hf
 rw[fD h2] at h1
 refine⟨hid,H0,ρ,ow,_,E,h1,fun v as H' s n D=>?_⟩
 cases D with
 | @lst _ l vs _ as q r m=>
  obtain⟨dl,zq1⟩:=r.dl
  subst zq1
  exact k l vs H' s (n l List.mem_cons_self) q dl
end
section
variable {X:Cx}{O:Ow}{i:Nat}{x:Str}{pos' spos:Pos}{elt tg iter:Expr}{ifs:List Expr}{scope:Scope}{pos:Pos}{fi:aa->Option (List PyData)}{S:PyData->aa->Option aa}{ft:aa->Option Bool}{fe:aa->Option PyData}{k:Nat}{N:List Str}{ix:List Nat}{T:Ty}
end
def vN (s:Stmt):List Stmt:=match s with
 | .ClassDef _ _ _ b _ _ _ _ _ _ _=>b
 | _=>[]
inductive ClsAt (K:PySem.W.Frag)(cls:Str)(st:Stmt)(f1 f2:Str):Prop
 | mk (C f:Addr) (fd:FuncData) (a:PySem.W.nsIn K mainGlobals cls=some (some (.ref C))) (m1:PySem.W.makesIn K C=true) (m2:PySem.W.findIn K (.ref C) "__init__"=some (some (.ref f))) (m3:PySem.W.isFn K (.ref f)=true) (m4:PySem.W.keepIn K (.ref C)=true)
  (c1:PySem.W.plainGet K C Str.empty=true) (c2:PySem.W.hasDictIn K C=true) (c3:PySem.W.plainOver K C=true) (c4:PySem.W.findIn K (.ref C) "__setattr__"=some (some (.builtin "object.__setattr__"))) (n1:PySem.W.findIn K (.ref C) f1=some none) (n2:PySem.W.findIn K (.ref C) f2=some none)
  (F:aZ K "__init__" (cls++".__init__") st f fd):ClsAt K cls st f1 f2
section
variable {P:Program}{w:World}{K:PySem.W.Frag}{h:Heap}{mg:Str->Option Value}{base:Heap}{cls f1 f2:Str}{st:Stmt}{k:Nat}{ps:List Str}
theorem ClsAt.ok {F:List PyData->Option (PyData×PyData)}(d:ClsAt K cls st f1 f2)(X:K.In h)(G:h.Ns mainGlobals mg)
  (hb:∀ (kV doc pm:Value) (an:Option Addr) (cdv ct:Value) (us:List Value),us.length=ps.length->bindArgs (PySem.W.fnOf "__init__" (cls++".__init__") (iP st) (cW st) (aL st) .none kV doc pm an cdv ct) ⟨us,[]⟩=pure (ps.zip us))
  (ok:∀ f fd,aZ K "__init__" (cls++".__init__") st f fd->aS P w K mg base bc k f fd ps (zS K cls f1 f2 F)):Aw P w K mg base k cls ps f1 f2 F:=by
 cases d with
 | mk C f fd a m1 m2 m3 m4 c1 c2 c3 c4 n1 n2 D=>exact⟨C,f,fd,⟨m1,m2,m3,m4⟩,ok f fd D,PySem.W.mg_of X G a,a,D.binds hb⟩
end
end L2
namespace L2
variable [Reg]
section
variable {X:Cx}{tg:Expr}
variable {O:Ow}{a b c:Expr}{p pos:Pos}{fs:aa->Option (List PyData)}
end
end L2
namespace L2
section
variable {P:Program}{w:World}{A:Around}{E:Value->Shared->Prop}{s:Shared}
end
section
variable [Reg]{X:Cx}{O:Ow}{a:Expr}{fa:aa->Option PyData}{p p2 pos pos2:Pos}
end
end L2
namespace L2
section
variable {P:Program}{w:World}{A:Around}{E:Value->Shared->Prop}{s:Shared}
end
variable [Reg]
end L2
namespace L2
variable [Reg]
section
variable {X:Cx}{O:Ow}{a b e:Expr}{es:List Expr}{pos p:Pos}{k:Nat}{ps:List Str}{x:Str}{T:Ty}
variable {ga:aa->Option (Bool×aa)}{gb:aa->Option Bool}{rest:List Expr}
end
end L2
namespace L2
section
variable {X:Cx}
end
variable [Reg]
section
variable {X:Cx}{O:Ow}{a b e:Expr}{pos:Pos}{f:aa->Option PyData}
end
end L2
namespace L2
variable [Reg]
section
variable {X:Cx}{O:Ow}{e:Expr}{pos:Pos}{f:aa->Option PyData}{T:Ty}
end
end L2
namespace L2
structure uX (z TI TO i1 i2:Addr)(f1 f2:List Addr):Prop where
 nd:[z,TI,TO,i1,i2].Nodup
 a1:z∉f1∧TO∉f1∧i2∉f1
 a2:z∉f2∧TO∉f2∧i1∉f2
theorem uX.ne {z TI TO i1 i2:Addr}{f1 f2:List Addr}(ap:uX z TI TO i1 i2 f1 f2):(z≠TI∧z≠TO∧z≠i1∧z≠i2)∧(TI≠TO∧TI≠i1∧TI≠i2)∧(TO≠i1∧TO≠i2)∧i1≠i2:=by
 have nd:=ap.nd
 simp only[List.nodup_cons,List.mem_cons,List.not_mem_nil,or_false,not_or,List.nodup_nil,and_true,not_false_eq_true] at nd
 exact nd
section
variable {P:Program}{w:World}{A:Around}{E:Value->Shared->Prop}{s:Shared}{z TI TO i1 i2:Addr}{f1 f2:List Addr}{n1 n2 k1 k2:Nat}{P1 P2:Nat->Value->Prop}{S1 S2:Nat->Heap->Prop}{a b:Value}
theorem stay {it c:Addr}{f:List Addr}{n k:Nat}{Pv:Nat->Value->Prop}{S:Nat->Heap->Prop}(D:Draws P w A it f n Pv S){h h':Heap}(st:S k h)(x:Heap.ExtBut c h h')(hc:c∉f):S k h':=D.frame k h h' st fun b hb o e=>x b o (fun y=>hc (y▸hb)) e
end
abbrev Ag (h:Heap)(l1 l2:Addr):Heap:=h.push {cls:=.type "list_iterator",data:=.fields #[.ref l1,.int 0 0]}
abbrev Ah (h:Heap)(l1 l2:Addr):Heap:=(Ag h l1 l2).push {cls:=.type "tuple_iterator",data:=.fields #[.ref l2,.int 0 0]}
abbrev Aj (h:Heap)(l1 l2:Addr):Heap:=(Ah h l1 l2).push {cls:=.type "tuple",data:=.seq #[.ref h.objs.size,.ref (Ag h l1 l2).objs.size]}
abbrev Kv (h:Heap)(l1 l2:Addr):Heap:=(Aj h l1 l2).push {cls:=.type "tuple",data:=.seq #[.none,.none]}
abbrev K7 (h:Heap)(l1 l2:Addr):Heap:=(Kv h l1 l2).push {cls:=.type "zip",data:=.fields #[.none,.bool false,.bool false,.ref (Ah h l1 l2).objs.size,.ref (Aj h l1 l2).objs.size]}
section
variable {P:Program}{w:World}{A:Around}{E:Value->Shared->Prop}{s:Shared}
end
variable [Reg]
end L2
namespace L2
structure Kx (sc:Scope)(XN:List Str)(scope:Scope)(k:Nat)(N:List Str)(ix:List Nat)(x0:Str):Prop where
 kind:scope.kind=.function
 okind:sc.kind=.function
 onec:(scope.names.filter fun y=>y.2==.cell)=[(x0,.cell)]
 x0c:scope.names.lookup x0=some .cell
 loc:∀ y∈scope.names,y.2=.local->scope.names.lookup y.1=some .local
 fr:∀ y∈scope.names,y.2=.free->sc.names.lookup y.1=some .cell
 sl:ix.map (fun i=>XN[i]?)=(N.drop k).map some
 frl:∀ x∈N.drop k,scope.names.lookup x=some .free
 len:N.length=k+ix.length
section
variable {X:Cx}{pins:List (Addr×Obj)}{σ:St}{H:Hp}{s:Shared}{scope:Scope}{k:Nat}{N:List Str}{ix:List Nat}{sc:Scope}{fp:List Addr}{x0:Str}
end
variable [Reg]
end L2
namespace L2
variable [Reg]
section
variable {P:Program}{w:World}{K:PySem.W.Frag}{h:Heap}{mg:Str->Option Value}{base:Heap}{x:Str}{st:Stmt}{k j:Nat}{ps:List Str}{T:Ty}
end
end L2
namespace L2
variable [Reg]
section
variable {X:Cx}{O:Ow}{b:Expr}{es:List Expr}{pos p:Pos}{k:Nat}{ps:List Str}{x:Str}{T:Ty}
end
end L2
namespace L2
variable [Reg]
def vR (S:PyData->aa->Option aa)(fe:aa->Option (PyData×aa)):Nat->Nat->aa->Option (List PyData×aa)
 | 0,_,ρ=>some ([],ρ)
 | n+1,i,ρ=>(S (.int (i:Nat)) ρ).bind fun ρ1=>(fe ρ1).bind fun y=>(vR S fe n (i+1) y.2).map fun z=>(y.1::z.1,z.2)
def O1 (m:Nat)(l:Addr):Ow:=⟨[(m,.io l)],.cl⟩
section
variable {K:PySem.W.Frag}{O:Ow}{hid:Addr->Prop}{H0 H H':Hp}{σ:St}{ρ:aa}{ow:List Addr}{l D:Addr}
inductive An (K:PySem.W.Frag)(m:Nat)(l:Addr)(hx:Addr->Prop)(H1:Hp)(D:Addr)(S:PyData->aa->Option aa)(fe:aa->Option (PyData×aa))(n:Nat)(out:List PyData×aa)(i r:Nat)(τ:St)(H2:Hp):Prop
 | mk (hn:i+r=n) (ρ2:aa) (ys:List V) (done:List PyData) (rest:List PyData×aa) (E2:aE K (O1 m l) hx (fun _=>none) τ H2 ρ2 [l]) (s2:aj (ah H1 fun b=>b=l) H2) (hy:H2 D=some (.lst ys)) (hd:ar K (ah H2 (uni hx [l])) ys done) (hr:vR S fe r i ρ2=some rest) (ho:out=(done++rest.1,rest.2)) (hl:done.length=i):An K m l hx H1 D S fe n out i r τ H2
theorem aE.io (E:aE K O hid H0 σ H ρ ow){i:Nat}{es:List PyData}(hi:O.s.lookup i=some (.io l))(hρ:ρ[i]?=some (some (.list es))) :
  ∃ vs,σ[i]?=some (some (.ref l))∧H l=some (.lst vs)∧ar K (ah H (uni hid ow)) vs es∧l∈ow:=by
 obtain⟨A,EA⟩:=E.own
 obtain⟨v,b1,b2⟩:=EA.1 i (.io l) _ hi hρ
 have b3:=EA.2.2 i
 generalize A i=Ai at b2 b3
 cases b2 with
 | io h q=>exact⟨_,b1,h,q,b3 l (List.mem_singleton.mpr rfl)⟩
end
section
variable {X:Cx}{O:Ow}{e:Expr}{f:aa->Option (PyData×aa)}{pos p:Pos}{tg:Expr}{l:Addr}
end
end L2
namespace L2
variable [Reg]
section
variable {X:Cx}{O:Ow}{e c:Expr}{f:aa->Option PyData}{a rest:List Stmt}{F G:aa->Option aq}{ft:aa->Option Bool}{l:Addr}{pos:Pos}
end
end L2
namespace L2
variable [Reg]
section
variable {X:Cx}{O:Ow}{a b c:Expr}{es:List Expr}{pos apos cpos:Pos}{fa fb fc:aa->Option PyData}
end
end L2
namespace L2
variable [Reg]
section
variable {X:Cx}{O:Ow}{a b c:Expr}{es:List Expr}{pos apos cpos p2:Pos}{fa fb fc:aa->Option PyData}
theorem By {bs:List Bool}:∀ {its:List Value},aG (bs.map V.bl) its->its=bs.map Value.bool:=by
 induction bs with
 | nil=>intro its h;cases h;rfl
 | cons x r ih=>
  intro its h
  cases h with
  | cons h1 h2=>
   rw[ih h2]
   cases h1
   rfl
theorem BI (hc:X.calm=true):dz X (.builtin "all") (fun xs H Q=>∃ (p:Addr) (bs:List Bool),xs=[.ref p]∧aN X.K H p (bs.map V.bl)∧Q (.bl (bs.all id)) H):=by
 intro pins s σ H xs us Q I r h
 obtain⟨p,bs,rfl,hq,k⟩:=h
 obtain⟨u,rfl,rx⟩:=vals1 r
 obtain rfl:u=Value.ref p:=rx
 obtain⟨its,r',pl,hz⟩:=I.list hq
 obtain rfl:=By r'
 have hl:=pl.isList
 have hlt:p<s.heap.objs.size:=Heap.lt_size hl.choose_spec.1
 refine call_all_walk (wpAny_pyIter_list hl ?_)
 refine⟨_,_,_,_,_,_,fun i=>bs.getD i true,rfl,Walks.list (A:=X.A.in1) (I.ok.hd hc) _ p (Nat.ne_of_lt hlt) (bs.map Value.bool).toArray,⟨⟨_,Heap.get?_push_size _ rfl,rfl,rfl⟩,hl.push _⟩,fun i v s' Q' E' hv hQ=>?_,fun h' tk hk=>?_⟩
 ·have hv':(bs.map Value.bool)[i]?=some v:=by simpa using hv
  rw[List.getElem?_map] at hv'
  obtain⟨b,hb,rfl⟩:=Option.map_eq_some_iff.mp hv'
  refine wpAny_truthy_bool ?_
  have:bs.getD i true=b:=by rw[List.getD_eq_getElem?_getD,hb];rfl
  exact this▸(show Q' (bs.getD i true) s' from hQ)
 ·have hall:(List.range (bs.map Value.bool).toArray.size).all (fun i=>bs.getD i true)=bs.all id:=by
   rw[List.size_toArray,List.length_map,Bool.eq_iff_iff,List.all_eq_true,List.all_eq_true]
   constructor
   ·intro h x hx
    obtain⟨i,hi,rfl⟩:=List.getElem_of_mem hx
    have:=h i (List.mem_range.mpr hi)
    rwa [List.getD_eq_getElem?_getD,List.getElem?_eq_getElem hi] at this
   ·intro h i hi
    have hi:=List.mem_range.mp hi
    rw[List.getD_eq_getElem?_getD,List.getElem?_eq_getElem hi]
    exact h _ (List.getElem_mem hi)
  rw[hall]
  exact⟨.bl _,H,I.kept (t':=tk) (old_kept hk),rfl,k⟩
def vw:PyData->Option Bool
 | .bool b=>some b
 | _=>none
def qN:List PyData->Option (List Bool)
 | []=>some []
 | d::r=>(vw d).bind fun x=>(qN r).map fun xs=>x::xs
theorem Bw {d:PyData}{x:Bool}(h:vw d=some x):d=.bool x:=by
 cases d with
 | bool y=>cases h;rfl
 | _=>cases h
theorem Bx {K:PySem.W.Frag}{H:Hp}:∀ {ds:List PyData} {ss:List Bool} {vs:List V},qN ds=some ss->ar K H vs ds->vs=ss.map V.bl:=by
 intro ds
 induction ds with
 | nil=>intro ss vs h D;cases h;cases D;rfl
 | cons d r ih=>
  intro ss vs h D
  obtain⟨x,h1,h2⟩:=bind_some h
  obtain⟨xs,h3,rfl⟩:=map_some h2
  cases D with
  | cons D1 D2=>
   rw[Bw h1] at D1
   rw[jv D1,ih h3 D2]
   rfl
def Bc (d:PyData):Option PyData:=((br d).bind qN).map fun bs=>.bool (bs.all id)
theorem v_all {p:Pos}(hc:X.calm=true)(hg:Gl X "all")(hm:X.mg "all"=none)(ha:PR X O a fa)(he:starEach [a] X.env=(false,eval a X.env)::starEach [] X.env:=by rfl)(hpl:(backTo pos (starEach [] X.env)).any (·.1)=false:=by rfl)
  (hv:bootBuiltins "all"=some (.builtin "all"):=by decide +kernel):PV X O (.Call (.Name "all" p) [a] [] pos) (fun ρ=>(fa ρ).bind Bc):=
 (jC (BI hc) hg hm hv (pa_cons ha pa_nil he) (by decide) (by decide) he hpl).imp fun σ H Q zpat=>by
  obtain⟨hid,H0,ρ,ow,r,E,hf,k⟩:=zpat
  obtain⟨d,h1,h2⟩:=bind_some hf
  obtain⟨bs,h3,rfl⟩:=map_some h2
  obtain⟨ds,h4,h5⟩:=bind_some h3
  rw[fD h4] at h1
  refine⟨hid,H0,ρ,ow,_,E,h1,fun x H1 s1 D1=>?_⟩
  obtain⟨q,vs,rfl,q1,r1⟩:=df D1
  rw[Bx h5 r1] at q1
  exact⟨q,bs,rfl,(bA _ _).seq q1,k _ H1 s1 (.bl _)⟩
end
end L2
namespace L2
section
variable [Reg]{X:Cx}{O:Ow}{tg e:Expr}{f:aa->Option PyData}
end
section
variable {X:Cx}{O:Ow}{a b:Expr}{pos:Pos}{fa fb:aa->Option PyData}
theorem Ki [Reg]{op:CmpOp}{g:PyData->PyData->Option PyData}(C:eU X op g)(ha:PR X O a fa)(hb:PR X O b fb)(hm:behindInMarks op b=false:=by rfl):PV X O (.Compare a [op] [b] pos) (fun ρ=>ae (fa ρ) (fb ρ) g):=by
 obtain⟨rd,ho,hs⟩:=C.ex
 exact (yF ho ha hb hm).imp (iq hs)
end
inductive qw (K:PySem.W.Frag)(x v:Str):Prop
 | mk (t:Tok) (e:PySem.W.nsIn K mainGlobals x=some (some (.str v t))):qw K x v
theorem qw.of {K:PySem.W.Frag}{x v:Str}{t:Tok}(e:PySem.W.nsIn K mainGlobals x=some (some (.str v t))):qw K x v:=⟨t,e⟩
end L2
namespace L2
section
variable [Reg]{X:Cx}{O:Ow}{e:Expr}{f:aa->Option PyData}{pos:Pos}
theorem aK (i:Nat){x:Str}(hN:X.N[i]?=some x:=by rfl)(hv:j8 X.env.scope x:=by first | exact Or.inl rfl | exact Or.inr (Or.inl rfl) | exact Or.inr (Or.inr rfl))(hd:(x==("__debug__":Str))=false:=by decide)(hcd:(x==("__classdict__":Str))=false:=by decide)(hi:O.s.lookup i=none:=by rfl):PV X O (.Name x pos) (fun ρ=>(ρ[i]?).join):=y6 (pv i hN hv hd hcd) hi
theorem ag (i:Nat){x:Str}(hN:X.N[i]?=some x:=by rfl)(hv:j8 X.env.scope x:=by first | exact Or.inl rfl | exact Or.inr (Or.inl rfl) | exact Or.inr (Or.inr rfl))(hd:(x==("__debug__":Str))=false:=by decide)(hcd:(x==("__classdict__":Str))=false:=by decide)(hi:O.s.lookup i=none:=by rfl):PR X O (.Name x pos) (fun ρ=>(ρ[i]?).join):=(y6 (pv i hN hv hd hcd) hi).r
theorem ai {i:Int}{j:Nat}:PR X O (.Constant (.int i) j pos) (fun _=>some (.int i)):=i4.r
theorem bt (i:Nat){x:Str}{pos':Pos}(hN:X.N.Nodup)(he:PV X O e f)(hi:X.N[i]?=some x:=by rfl)(hx:Loc X.env.scope x:=by exact Or.inl rfl)(hO:O.s.lookup i=none:=by rfl)(hs:swapsWith e (some (.Name x pos')) pos.line X.env=pure false:=by rfl)(hf:X.fn x=true∨X.env.scope.names.lookup x=some .local:=by first | exact .inl rfl | exact .inr rfl | assumption):c_ X O (.Assign [.Name x pos'] e pos) (fun ρ=>ax i ρ (f ρ)):=dS hN hi hx he hO hs hf
theorem bN {N P:List Str}{sc:Scope}(a:sc.kind=.function:=by rfl)(b:sc.isCoroutine=false:=by rfl)(c:sc.isGenerator=false:=by rfl)(d:N.Nodup:=by decide +kernel)(e:N.take P.length=P:=by rfl)(f:∀ x∈P,sc.names.lookup x=some .local∨sc.names.lookup x=some .cell:=by decide +kernel)(g:∀ y∈sc.names,y.2≠.free:=by decide +kernel):bp N P sc:=⟨a,b,c,d,e,f,g⟩
end
theorem ba.mn {a b:Nat}{A:Around}(h:ba a A)(k:b≤a:=by decide):ba b A:=h.mono k
end L2
namespace NW
open L2
def bO (i:Nat):Stmt:=PySem.Challenge.pw_nearposts_k24_rings_refused.main.body.getD i (.Pass ⟨0,0,0,0⟩)
abbrev sS:Stmt:=(vN (bO 8)).getD 0 (.Pass ⟨0,0,0,0⟩)
abbrev sT:Stmt:=(vN (bO 9)).getD 0 (.Pass ⟨0,0,0,0⟩)
abbrev su:Stmt:=bO 45
abbrev sr:Stmt:=bO 44
abbrev sv:Stmt:=bO 51
abbrev sE:Stmt:=bO 28
abbrev sD:Stmt:=bO 23
abbrev sF:Stmt:=bO 29
abbrev sM:Stmt:=bO 18
abbrev sL:Stmt:=bO 20
abbrev sG:Stmt:=bO 16
abbrev sJ:Stmt:=bO 17
abbrev sR:Stmt:=bO 30
abbrev sH:Stmt:=bO 32
abbrev sx:Stmt:=bO 33
abbrev oH:Stmt:=bO 34
abbrev sN:Stmt:=bO 19
abbrev oN:Stmt:=bO 24
abbrev oK:Stmt:=bO 25
abbrev jH:Stmt:=bO 31
abbrev sC:Stmt:=bO 22
abbrev oJ:Stmt:=bO 35
abbrev sI:Stmt:=bO 26
abbrev jG:Stmt:=bO 36
abbrev sP:Stmt:=bO 37
abbrev mh:Stmt:=bO 38
abbrev sQ:Stmt:=bO 39
abbrev oM:Stmt:=bO 40
abbrev sy:Stmt:=bO 41
abbrev sO:Stmt:=bO 42
abbrev sq:Stmt:=bO 55
abbrev oF:Stmt:=bO 54
abbrev oG:Stmt:=bO 56
def lS:dI:=⟨(("ring_reach":Str)++".<locals>.")++"<lambda>",(ko (kJ ((cW jH).getD 3 (.Pass ⟨0,0,0,0⟩)))).1,(ko (kJ ((cW jH).getD 3 (.Pass ⟨0,0,0,0⟩)))).2.1,(ko (kJ ((cW jH).getD 3 (.Pass ⟨0,0,0,0⟩)))).2.2,["place","post"],["around"]⟩
def lR:dI:=⟨(("least_length":Str)++".<locals>.")++"<lambda>",(ko (kJ ((cW jG).getD 1 (.Pass ⟨0,0,0,0⟩)))).1,(ko (kJ ((cW jG).getD 1 (.Pass ⟨0,0,0,0⟩)))).2.1,(ko (kJ ((cW jG).getD 1 (.Pass ⟨0,0,0,0⟩)))).2.2,["length"],["places","many","around"]⟩
def Eo:List (Str×dI):=[("ring_reach@0",lS),("least_length@0",lR)]
instance:Reg:=⟨fun t=>Eo.lookup t⟩
def aR:List Str:=["NoMany","NoPosts","NoFolk","NoRing","NoPost"]
def pf:aa->Option aq:=av (fun ρ=>aA (aw (ae ((ρ[0]?).join) (ae (some (.int 10)) (some (.int 18)) bI) eu)) ((ae ((ρ[0]?).join) (ae (some (.int 10)) (some (.int 18)) bI) dj).map .rt) (some (.nx ρ))) (av (fun ρ=>ax 2 ρ (ae ((ρ[0]?).join) (ae (some (.int 10)) (some (.int 60)) bI) aM)) (av (fun ρ=>ax 2 ρ (ae (ae (ae (ae (ae ((ρ[2]?).join) ((ρ[2]?).join) bT) (ae (ae (some (.int 40503)) ((ρ[1]?).join) bT) ((ρ[1]?).join) bT) bu) (some (.int 7919)) bu) (some (.int 1812433253982451697)) bT) (ae (ae (some (.int 10)) (some (.int 18)) bI) (some (.int 9)) bu) aM)) (fun ρ=>(ae (ae (ae (ae ((ρ[2]?).join) ((ρ[2]?).join) bT) ((ρ[1]?).join) bu) (some (.int 739108512309184756019283746561)) bT) (ae (ae (some (.int 10)) (some (.int 40)) bI) (some (.int 121)) bu) aM).map .rt)))
def ff:List PyData->Option PyData:=bz 2 1 pf
def pe:aa->Option aq:=av (fun ρ=>aA (aw (ae ((ρ[1]?).join) ((af ((ρ[0]?).join) (some [])).bind cw) bx)) ((ae ((ρ[0]?).join) ((ρ[1]?).join) ay).map .rt) (some (.nx ρ))) (fun ρ=>(some (.int 0)).map .rt)
def fM:List PyData->Option PyData:=bz 2 0 pe
def mS:aa->Option aq:=av (fun ρ=>ax 7 ρ ((af ((af ((ρ[0]?).join) (af (ae (ae ((ρ[1]?).join) (some (.int 1)) bu) ((ρ[6]?).join) bu) (some []))).bind fM) (af (some (.int 7)) (some []))).bind ff)) (av (fun ρ=>ax 8 ρ (ae ((ρ[7]?).join) ((ρ[4]?).join) aM)) (av (fun ρ=>aA (cU (aw (ae (ae (ae ((ρ[7]?).join) (ae (some (.int 10)) (some (.int 25)) bI) aU) (some (.int 5)) aM) (some (.int 1)) aF)) (aw (ae ((af ((ρ[5]?).join) (some [])).bind cw) (some (.int 0)) km))) (ax 8 ρ ((ae ((ρ[5]?).join) (some (.int 0)) ay).filter lf)) (some (.nx ρ))) (fun ρ=>((ρ[8]?).join).bind (iJ 5 ρ))))
def ph:aa->Option aq:=av (fun ρ=>ax 3 ρ ((af ((af ((ρ[0]?).join) (af ((ρ[1]?).join) (some []))).bind fM) (af ((ρ[1]?).join) (some []))).bind ff)) (av (fun ρ=>ax 4 ρ ((ae ((aC (af (ae (some (.int 1)) (ae (ae ((ρ[3]?).join) (some (.int 10)) aU) (some (.int 12)) aM) bu) (af (ae (some (.int 1)) (ae (ae ((ρ[3]?).join) (some (.int 10)) aU) (some (.int 40)) aM) bu) (af (ae (some (.int 1)) (ae (ae ((ρ[3]?).join) (some (.int 10)) aU) (some (.int 1000)) aM) bu) (af (ae (some (.int 1)) (ae (ae ((ρ[3]?).join) (some (.int 10)) aU) (ae (some (.int 10)) (some (.int 20)) bI) aM) bu) (some [])))))).map .list) (ae ((ρ[3]?).join) (some (.int 4)) aM) ay).filter lf)) (av (fun ρ=>kG 5 ρ (aC (some []))) (av (fun ρ=>ej (aO 6) mS ((af (ae (ae ((ρ[3]?).join) (ae (some (.int 10)) (some (.int 21)) bI) aU) (ae ((ρ[2]?).join) (some (.int 1)) bu) aM) (some [])).bind i5) ρ) (fun ρ=>((aC (af ((ρ[4]?).join) (af ((ρ[5]?).join) (some [])))).map .list).map .rt))))
def iA:List PyData->Option PyData:=bz 3 6 ph
def qe:aa->Option bf:=fun ρ=>aA (dr (aw (ae ((ρ[3]?).join) (some (.int 0)) bx)) (aw (ae ((ρ[3]?).join) ((ρ[0]?).join) eu))) (kC "NoFolk" "number" ρ ((ρ[2]?).join)) (some (.nx ρ))
def mw:aa->Option bf:=du (fun ρ=>aA (aw (ae ((ρ[0]?).join) (some (.int 1)) bx)) (some (.ex (bF "NoRing" []) ρ)) (some (.nx ρ))) (fun ρ=>lH (ey 2 (bM (aO 2) (bM (aO 3) dE))) qe ((((ρ[1]?).join).bind br).map dg) ρ)
def bU:List PyData->Option RX:=eQ 2 2 mw
def t6:aa->Option bf:=fun ρ=>aA (cU (aw (ae ((af ((ρ[0]?).join) (some [])).bind cw) (some (.int 0)) km)) (aw (ae ((af ((ρ[1]?).join) (some [])).bind cw) (some (.int 0)) aF))) (some (.ex (bF "NoPosts" []) ρ)) (some (.nx ρ))
def fL:List PyData->Option RX:=eQ 2 0 t6
def qf:aa->Option bf:=fun ρ=>aA (dr (aw (ae (ae ((ρ[3]?).join) (some (.int 0)) ay) (some (.int 0)) bx)) (aw (ae (ae ((ρ[3]?).join) (some (.int 0)) ay) (ae ((ρ[0]?).join) (ae ((ρ[3]?).join) (some (.int 1)) ay) bT) eu))) (kC "NoPost" "number" ρ ((ρ[2]?).join)) (some (.nx ρ))
def t7:aa->Option bf:=fun ρ=>lH (ey 2 (bM (aO 2) (bM (aO 3) dE))) qf ((((ρ[1]?).join).bind br).map dg) ρ
def iy:List PyData->Option RX:=eQ 2 2 t7
def pC:aa->Option aq:=fun ρ=>(ae (ae (ae ((ρ[0]?).join) (some (.int 0)) ay) (ae ((ρ[1]?).join) (some (.int 1)) ay) bT) (ae (ae ((ρ[1]?).join) (some (.int 0)) ay) (ae ((ρ[0]?).join) (some (.int 1)) ay) bT) bx).map .rt
def iC:List PyData->Option PyData:=bz 2 0 pC
def mW:aa->Option aq:=fun ρ=>aA (aw ((af ((ρ[1]?).join) (af ((ρ[2]?).join) (some []))).bind iC)) (ax 1 ρ ((ρ[2]?).join)) (some (.nx ρ))
def pB:aa->Option aq:=av (fun ρ=>ax 1 ρ (ae ((ρ[0]?).join) (some (.int 0)) ay)) (av (fun ρ=>ej (aO 2) mW (((ρ[0]?).join).bind br) ρ) (fun ρ=>((ρ[1]?).join).map .rt))
def jc:List PyData->Option PyData:=bz 1 2 pB
def lx:aa->Option Bool:=fun ρ=>aw (ae ((ρ[1]?).join) (some (.int 0)) cO)
def mV:aa->Option aq:=av (fun ρ=>ax 2 ρ (ae ((ρ[0]?).join) ((ρ[1]?).join) aM)) (av (fun ρ=>ax 0 ρ ((ρ[1]?).join)) (fun ρ=>ax 1 ρ ((ρ[2]?).join)))
def pk:aa->Option aq:=av (fun ρ=>cQ lx mV ((fun ρ=>rV ρ 1+1) ρ) ρ) (fun ρ=>((ρ[0]?).join).map .rt)
def jT:List PyData->Option PyData:=bz 2 1 pk
def pA:aa->Option aq:=av (fun ρ=>ax 2 ρ ((af ((ρ[0]?).join) (af ((ρ[1]?).join) (some []))).bind jT)) (fun ρ=>(cP .tuple (af (ae ((ρ[0]?).join) ((ρ[2]?).join) aU) (af (ae ((ρ[1]?).join) ((ρ[2]?).join) aU) (some [])))).map .rt)
def fN:List PyData->Option PyData:=bz 2 1 pA
def pJ:aa->Option aq:=av (fun ρ=>ax 3 ρ ((af (ae (ae ((ρ[1]?).join) (ae ((ρ[2]?).join) (some (.int 1)) ay) bT) (ae ((ρ[2]?).join) (some (.int 0)) ay) dj) (some [])).bind qG)) (fun ρ=>((af ((af ((ρ[3]?).join) (af (ae (ae ((ρ[0]?).join) (ae ((ρ[2]?).join) (some (.int 1)) ay) bT) ((ρ[3]?).join) dj) (some []))).bind rQ) (af (ae ((ρ[2]?).join) (some (.int 1)) ay) (some []))).bind fN).map .rt)
def jW:List PyData->Option PyData:=bz 3 1 pJ
def lb:aa->Option aq:=fun ρ=>aA (aw (ae (ae ((ρ[3]?).join) ((ρ[4]?).join) bu) ((ρ[2]?).join) eu)) ((ae ((ρ[3]?).join) ((ρ[4]?).join) bu).map .rt) (some (.nx ρ))
def px:aa->Option aq:=av (fun ρ=>ax 3 ρ (ae (ae ((ρ[2]?).join) ((ρ[0]?).join) aU) ((ρ[0]?).join) bT)) (av (fun ρ=>ej (aO 4) lb (((ρ[1]?).join).bind br) ρ) (fun ρ=>(ae (ae ((ρ[3]?).join) ((ρ[0]?).join) bu) (ae ((ρ[1]?).join) (some (.int 0)) ay) bu).map .rt))
def iB:List PyData->Option PyData:=bz 3 2 px
def nA:aa->Option Bool:=fun ρ=>aw (ae ((ρ[5]?).join) (ae ((ρ[3]?).join) ((ρ[0]?).join) bu) bx)
def mU:aa->Option aq:=av (fun ρ=>((ρ[5]?).join).bind (iJ 4 ρ)) (fun ρ=>ax 5 ρ ((af ((ρ[0]?).join) (af ((ρ[1]?).join) (af (ae (ae ((ρ[5]?).join) ((ρ[2]?).join) bu) (some (.int 1)) bu) (some [])))).bind iB))
def pj:aa->Option aq:=av (fun ρ=>kG 4 ρ (aC (some []))) (av (fun ρ=>ax 5 ρ ((ρ[3]?).join)) (av (fun ρ=>cQ nA mU ((fun ρ=>64) ρ) ρ) (fun ρ=>((ρ[4]?).join).map .rt)))
def jS:List PyData->Option PyData:=bz 4 2 pj
def pO:aa->Option PyData:=fun ρ=>(af ((ρ[1]?).join) (af ((ρ[2]?).join) (af ((ρ[3]?).join) (af ((ρ[0]?).join) (some []))))).bind jS
def pq:aa->Option aq:=fun ρ=>(((cM (aO 0) (fun _=>some true) pO (((ρ[1]?).join).bind br) (frees 1 [0,1,2] ρ)).map .list).bind l4).map .rt
def gh:List PyData->Option PyData:=bz 3 0 pq
def mX:aa->Option aq:=fun ρ=>aA (aw ((af ((ρ[2]?).join) (af ((ρ[1]?).join) (some []))).bind iC)) (ax 1 ρ ((ρ[2]?).join)) (some (.nx ρ))
def pE:aa->Option aq:=av (fun ρ=>ax 1 ρ (ae ((ρ[0]?).join) (some (.int 0)) ay)) (av (fun ρ=>ej (aO 2) mX (((ρ[0]?).join).bind br) ρ) (fun ρ=>((ρ[1]?).join).map .rt))
def jd:List PyData->Option PyData:=bz 1 2 pE
def pT:aa->Option PyData:=fun ρ=>(af ((ρ[2]?).join) (af ((ρ[0]?).join) (af ((ρ[1]?).join) (some [])))).bind jW
def mH:List PyData->Option PyData:=kD 3 pT
def pP:aa->Option PyData:=fun ρ=>ae ((af ((af ((ρ[3]?).join) (af ((ρ[1]?).join) (af ((ρ[0]?).join) (some [])))).bind gh) (some [])).bind cw) ((ρ[2]?).join) lT
def mG:List PyData->Option PyData:=kD 4 pP
def FT:ja:=[("ring_reach@0",mH),("least_length@0",mG)]
def pU:aa->Option PyData:=fun ρ=>((ρ[1]?).join).bind fun c=>(af ((ρ[2]?).join) (af ((ρ[0]?).join) (some []))).bind (d_ FT c)
def pK:aa->Option aq:=fun ρ=>((af ((cM (aO 0) (fun _=>some true) pU (((ρ[2]?).join).bind br) (frees 1 [0,1] ρ)).map .list) (some [])).bind jd).map .rt
def jX:List PyData->Option PyData:=bz 3 0 pK
def pR:aa->Option PyData:=fun ρ=>(af ((ρ[1]?).join) (af ((ρ[0]?).join) (af ((ρ[2]?).join) (some [])))).bind jX
def pG:aa->Option aq:=av (fun ρ=>aA (aw (ae ((af ((ρ[1]?).join) (some [])).bind cw) (some (.int 0)) aF)) ((cP .tuple (af (some (.int 0)) (af (some (.int 1)) (some [])))).map .rt) (some (.nx ρ))) (fun ρ=>((af ((cM (aO 0) (fun _=>some true) pR (((ρ[1]?).join).bind br) (frees 1 [0,2] ρ)).map .list) (some [])).bind jc).map .rt)
def je:List PyData->Option PyData:=bz 3 0 pG
def iv:aa->Option bf:=du (fun ρ=>bw ρ ((af ((ρ[0]?).join) (af ((ρ[1]?).join) (some []))).bind bU)) (du (fun ρ=>bw ρ ((af ((ρ[1]?).join) (af ((ρ[2]?).join) (some []))).bind fL)) (du (fun ρ=>bw ρ ((af ((ρ[0]?).join) (af ((ρ[2]?).join) (some []))).bind iy)) (fun ρ=>((((iK [0] ρ).bind fun cs=>(af ((ρ[1]?).join) (af ((ρ[2]?).join) (some []))).bind fun ds=>je (clo "ring_reach@0" cs::ds)).filter nf).map .rt).map aq.x)))
def gg:List PyData->Option RX:=eQ 3 0 iv
def t5:aa->Option bf:=fun ρ=>aA (aw (ae ((ρ[0]?).join) (some (.int 1)) bx)) (some (.ex (bF "NoMany" []) ρ)) (some (.nx ρ))
def dA:List PyData->Option RX:=eQ 1 0 t5
def pQ:aa->Option PyData:=fun ρ=>ae (ae ((ρ[0]?).join) ((ρ[1]?).join) dj) ((ρ[2]?).join) aM
def mY:aa->Option aq:=fun ρ=>((cM (aO 0) (fun _=>some true) pQ (((ρ[1]?).join).bind br) (frees 1 [3,0] ρ)).filter lf.go).bind (nX 2 ρ)
def pF:aa->Option aq:=av (fun ρ=>kG 2 ρ (aC (af (some (.int 0)) (some [])))) (av (fun ρ=>ej (aO 3) mY (((ρ[1]?).join).bind br) ρ) (fun ρ=>((((ρ[2]?).join).bind eR).map .list).map .rt))
def jV:List PyData->Option PyData:=bz 2 2 pF
def nB:aa->Option Bool:=fun ρ=>aw (ae ((ρ[2]?).join) ((ρ[3]?).join) bx)
def j1:aa->Option aq:=av (fun ρ=>ax 4 ρ (ae (ae ((ρ[2]?).join) ((ρ[3]?).join) bu) (some (.int 2)) aU)) (fun ρ=>aA (aw (((ρ[0]?).join).bind fun c=>(af (ae ((ρ[1]?).join) ((ρ[4]?).join) ay) (some [])).bind (d_ FT c))) (ax 3 ρ ((ρ[4]?).join)) (ax 2 ρ (ae ((ρ[4]?).join) (some (.int 1)) bu)))
def pz:aa->Option aq:=av (fun ρ=>ax 2 ρ (some (.int 0))) (av (fun ρ=>ax 3 ρ (ae ((af ((ρ[1]?).join) (some [])).bind cw) (some (.int 1)) dj)) (av (fun ρ=>cQ nB j1 ((fun ρ=>64) ρ) ρ) (fun ρ=>((ρ[2]?).join).map .rt)))
def jU:List PyData->Option PyData:=bz 2 3 pz
def pD:aa->Option aq:=av (fun ρ=>ax 3 ρ ((af ((ρ[0]?).join) (af ((ρ[1]?).join) (some []))).bind jV)) (av (fun ρ=>ax 4 ρ (((iK [1,2,0] ρ).bind fun cs=>(af ((ρ[3]?).join) (some [])).bind fun ds=>jU (clo "least_length@0" cs::ds)).filter nf)) (fun ρ=>(ae ((ρ[3]?).join) ((ρ[4]?).join) ay).map .rt))
def eW:List PyData->Option PyData:=bz 3 2 pD
def jO:aa->Option bf:=du (fun ρ=>bw ρ ((af ((ρ[2]?).join) (some [])).bind dA)) (du (fun ρ=>bw ρ ((af ((ρ[0]?).join) (af ((ρ[1]?).join) (some []))).bind bU)) (fun ρ=>(((af ((af ((ρ[0]?).join) (af ((((ρ[1]?).join).bind eR).map .list) (af ((ρ[2]?).join) (some [])))).bind eW) (af (some (.int 2)) (some []))).bind fN).map .rt).map aq.x))
def gH:List PyData->Option RX:=eQ 3 0 jO
def mC:aa->Option PyData:=fun ρ=>ae (ae (ae (some (.int 2)) ((ρ[0]?).join) bT) ((ρ[1]?).join) bu) (ae (some (.int 2)) ((ρ[2]?).join) bT) aM
def mD:aa->Option PyData:=fun ρ=>(af ((ρ[0]?).join) (af (some (.int 2)) (some []))).bind fN
def jP:aa->Option bf:=du (fun ρ=>bw ρ ((af ((ρ[2]?).join) (some [])).bind dA)) (du (fun ρ=>bw ρ ((af ((ρ[0]?).join) (af ((ρ[1]?).join) (some []))).bind bU)) (fun ρ=>((av (fun ρ=>ax 3 ρ ((((ρ[1]?).join).bind eR).map .list)) (av (fun ρ=>ax 4 ρ ((af ((ρ[0]?).join) (af ((ρ[3]?).join) (af ((ρ[2]?).join) (some [])))).bind eW)) (av (fun ρ=>ax 5 ρ ((cM (aO 0) (fun _=>some true) mC (((af ((ρ[0]?).join) (af ((ρ[3]?).join) (af ((ρ[4]?).join) (some [])))).bind gh).bind br) (frees 1 [4,0] ρ)).map .list)) (fun ρ=>((cM (aO 0) (fun _=>some true) mD (((((ρ[5]?).join).bind kH).map .list).bind br) (frees 1 [] ρ)).map .list).map .rt)))) ρ).map aq.x))
def gJ:List PyData->Option RX:=eQ 3 3 jP
def j9:aa->Option Bool:=fun ρ=>aw (ae ((af ((ρ[5]?).join) (some [])).bind cw) ((ρ[4]?).join) bx)
def mZ:aa->Option aq:=fun ρ=>((af ((ρ[0]?).join) (af ((ρ[1]?).join) (af (ae (ae ((ρ[5]?).join) ((some (.int 1)).bind cg) ay) ((ρ[2]?).join) bu) (some [])))).bind iB).bind (iJ 5 ρ)
def pH:aa->Option aq:=av (fun ρ=>kG 5 ρ (aC (af ((ρ[3]?).join) (some [])))) (av (fun ρ=>cQ j9 mZ ((fun ρ=>64) ρ) ρ) (fun ρ=>((ρ[5]?).join).map .rt))
def iD:List PyData->Option PyData:=bz 5 1 pH
def mE:aa->Option PyData:=fun ρ=>(af ((ρ[1]?).join) (af ((ρ[2]?).join) (af ((ρ[3]?).join) (af ((ρ[0]?).join) (af (ae ((ρ[4]?).join) (some (.int 1)) bu) (some [])))))).bind iD
def jQ:aa->Option bf:=du (fun ρ=>bw ρ ((af ((ρ[2]?).join) (some [])).bind dA)) (du (fun ρ=>bw ρ ((af ((ρ[0]?).join) (af ((ρ[1]?).join) (some []))).bind bU)) (fun ρ=>((av (fun ρ=>ax 3 ρ ((((ρ[1]?).join).bind eR).map .list)) (av (fun ρ=>ax 4 ρ ((af ((ρ[0]?).join) (af ((ρ[3]?).join) (af ((ρ[2]?).join) (some [])))).bind eW)) (av (fun ρ=>aA (aw (ae ((ρ[4]?).join) (some (.int 0)) aF)) ((some .none).map .rt) (some (.nx ρ))) (fun ρ=>((cM (aO 0) (fun _=>some true) mE (((ρ[3]?).join).bind br) (frees 1 [0,3,4,2] ρ)).map .list).map .rt)))) ρ).map aq.x))
def gK:List PyData->Option RX:=eQ 3 2 jQ
def t9:aa->Option aq:=av (fun ρ=>aA (dr (aw (ae ((af ((ρ[4]?).join) (some [])).bind cw) (some (.int 2)) bx)) (aw (ae (ae ((ρ[4]?).join) ((some (.int 1)).bind cg) ay) (ae ((ρ[3]?).join) ((ρ[0]?).join) bu) eu))) ((some (.bool false)).map .rt) (some (.nx ρ))) (fun ρ=>(ae ((ρ[4]?).join) ((af ((ρ[0]?).join) (af ((ρ[1]?).join) (af ((ρ[2]?).join) (af ((ρ[3]?).join) (af ((af ((ρ[4]?).join) (some [])).bind cw) (some [])))))).bind iD) aF).map .rt)
def mF:List PyData->Option PyData:=bz 5 0 t9
def uB:aa->Option aq:=fun ρ=>aA (dr (aw (ae ((af ((ρ[7]?).join) (some [])).bind cw) ((af (ae ((ρ[3]?).join) (some (.int 0)) ay) (some [])).bind cw) cO)) ((aw ((af ((ρ[0]?).join) (af ((ρ[4]?).join) (af ((ρ[5]?).join) (af ((ρ[6]?).join) (af ((ρ[7]?).join) (some [])))))).bind mF)).map not)) ((some (.bool false)).map .rt) (some (.nx ρ))
def mx:aa->Option bf:=du (fun ρ=>bw ρ ((af ((ρ[0]?).join) (af ((ρ[1]?).join) (some []))).bind bU)) (fun ρ=>((av (fun ρ=>aA (aw (ae (ae ((ρ[2]?).join) (some (.int 0)) ay) (some (.int 0)) lT)) ((some (.bool false)).map .rt) (some (.nx ρ))) (av (fun ρ=>ax 4 ρ ((((ρ[1]?).join).bind eR).map .list)) (av (fun ρ=>aA (aw (ae ((af ((ρ[3]?).join) (some [])).bind cw) ((af ((ρ[4]?).join) (some [])).bind cw) cO)) ((some (.bool false)).map .rt) (some (.nx ρ))) (av (fun ρ=>ax 5 ρ ((ae (ae ((some (.int 2)).bind cg) (ae ((ρ[2]?).join) (some (.int 0)) ay) bT) (ae ((ρ[2]?).join) (some (.int 1)) ay) aU).bind cg)) (av (fun ρ=>ej (ey 2 (bM (aO 6) (bM (aO 7) dE))) uB (tY (((ρ[4]?).join).bind br) (((ρ[3]?).join).bind br)) ρ) (fun ρ=>(some (.bool true)).map .rt)))))) ρ).map aq.x)
def iz:List PyData->Option RX:=eQ 4 4 mx
def mO:aa->Option aq:=fun ρ=>ax 5 ρ ((ρ[6]?).join)
def kT:aa->Option aq:=av (fun ρ=>ax 5 ρ (some .none)) (av (fun ρ=>kO 6 aR mO (aA (aw (ae ((ρ[0]?).join) (some (.int 0)) aF)) (bw ρ ((af ((ρ[1]?).join) (af ((ρ[2]?).join) (af ((ρ[3]?).join) (some [])))).bind gg)) (aA (aw (ae ((ρ[0]?).join) (some (.int 1)) aF)) (bw ρ ((af ((ρ[1]?).join) (af ((ρ[2]?).join) (af ((ρ[4]?).join) (some [])))).bind gH)) (aA (aw (ae ((ρ[0]?).join) (some (.int 2)) aF)) (bw ρ ((af ((ρ[1]?).join) (af ((ρ[2]?).join) (af ((ρ[4]?).join) (some [])))).bind gJ)) (aA (aw (ae ((ρ[0]?).join) (some (.int 3)) aF)) (bw ρ ((af ((ρ[1]?).join) (af ((ρ[2]?).join) (af ((ρ[4]?).join) (some [])))).bind gK)) (bw ρ ((af ((ρ[1]?).join) (af ((ρ[2]?).join) (af (cP .tuple (af (some (.int 1)) (af (some (.int 1)) (some [])))) (af ((aC (some [])).map .list) (some []))))).bind iz))))))) (fun ρ=>((ρ[5]?).join).map .rt))
def jb:List PyData->Option PyData:=bz 5 2 kT
def Ax:aa->Option PyData:=fun ρ=>(af ((ρ[0]?).join) (some [])).bind intD
def t8:aa->Option aq:=av (fun ρ=>ax 1 ρ ((aC (af (((ρ[0]?).join).bind (cZ aR "NoFolk")) (af (((ρ[0]?).join).bind (cZ aR "NoLine")) (af (((ρ[0]?).join).bind (cZ aR "NoMany")) (af (((ρ[0]?).join).bind (cZ aR "NoName")) (some [])))))).map .list)) (av (fun ρ=>ax 1 ρ ((bZ ((ρ[1]?).join) ((aC (af (((ρ[0]?).join).bind (cZ aR "NoPost")) (af (((ρ[0]?).join).bind (cZ aR "NoPosts")) (af (((ρ[0]?).join).bind (cZ aR "NoReach")) (some []))))).map .list)).map .list)) (av (fun ρ=>ax 1 ρ ((bZ ((ρ[1]?).join) ((aC (af (((ρ[0]?).join).bind (cZ aR "NoRing")) (af (((ρ[0]?).join).bind (cZ aR "NoTable")) (af (((ρ[0]?).join).bind (cZ aR "NoText")) (some []))))).map .list)).map .list)) (av (fun ρ=>ax 1 ρ ((bZ ((ρ[1]?).join) ((aC (af (((ρ[0]?).join).bind (cZ aR "NoThing")) (af (((ρ[0]?).join).bind (cZ aR "NoWay")) (af (((ρ[0]?).join).bind (cZ aR "NoWord")) (some []))))).map .list)).map .list)) (av (fun ρ=>aA (dr ((aw (((ρ[0]?).join).bind (cZ aR "PostError"))).map not) (dr ((aw (((ρ[0]?).join).bind (cZ aR "ValueError"))).map not) (aw (ae (((cM (aO 0) (fun _=>some true) Ax (((ρ[1]?).join).bind br) (frees 1 [] ρ)).map .list).bind tq) (some (.int 1)) cO)))) ((some (.str (Str.ofString ""))).map .rt) (some (.nx ρ))) (av (fun ρ=>ax 2 ρ ((aC (af (some (.str (Str.ofString "NoFolk"))) (af (some (.str (Str.ofString "NoLine"))) (af (some (.str (Str.ofString "NoMany"))) (af (some (.str (Str.ofString "NoName"))) (af (some (.str (Str.ofString "NoPost"))) (af (some (.str (Str.ofString "NoPosts"))) (af (some (.str (Str.ofString "NoReach"))) (af (some (.str (Str.ofString "NoRing"))) (af (some (.str (Str.ofString "NoTable"))) (af (some (.str (Str.ofString "NoText"))) (some [])))))))))))).map .list)) (fun ρ=>(ae ((bZ ((ρ[2]?).join) ((aC (af (some (.str (Str.ofString "NoThing"))) (af (some (.str (Str.ofString "NoWay"))) (af (some (.str (Str.ofString "NoWord"))) (some []))))).map .list)).map .list) (ae ((ρ[1]?).join) (some (.bool true)) rk) ay).map .rt))))))
def dW:List PyData->Option PyData:=bz 1 2 t8
def k_:aa->Option Bool:=fun ρ=>dr (aw (ae (ae ((ρ[1]?).join) ((ρ[0]?).join) ay) (some (.int 0)) bx)) (aw (ae (ae ((ρ[1]?).join) ((ρ[0]?).join) ay) ((ρ[2]?).join) eu))
def kY:aa->Option PyData:=fun ρ=>(ρ[0]?).join
def mT:aa->Option aq:=fun ρ=>aA (dr (aw (ae (ae ((ρ[12]?).join) (some (.int 0)) ay) (some (.int 0)) bx)) (aw (ae (ae ((ρ[12]?).join) (some (.int 0)) ay) (ae ((ρ[2]?).join) (ae ((ρ[12]?).join) (some (.int 1)) ay) bT) eu))) (((ρ[11]?).join).bind (iJ 10 ρ)) (some (.nx ρ))
def kU:aa->Option aq:=av (fun ρ=>ax 1 ρ ((af ((af ((ρ[0]?).join) (af (some (.int 10)) (some []))).bind fM) (af (some (.int 0)) (some []))).bind ff)) (av (fun ρ=>lA (lZ 2 (bM (aO 2) (bM (aO 3) dE))) ρ ((af ((ρ[0]?).join) (af (some (.int 0)) (af (some (.int 4)) (some [])))).bind iA)) (av (fun ρ=>ax 4 ρ (ae (ae ((ρ[1]?).join) (ae (some (.int 10)) (some (.int 10)) bI) aU) (ae (some (.int 10)) (some (.int 20)) bI) aM)) (av (fun ρ=>aA (aw (ae (ae ((ρ[1]?).join) (some (.int 2)) aM) (some (.int 1)) aF)) ((av (fun ρ=>ax 5 ρ (ae (ae ((ρ[1]?).join) (some (.int 2)) aU) (ae ((af ((ρ[3]?).join) (some [])).bind cw) (some (.int 1)) bu) aM)) (av (fun ρ=>ax 3 ρ ((bZ ((bZ ((cutD ((ρ[3]?).join) (some none) ((((ρ[5]?).join).bind dh).map some)).map .list) ((aC (af (ae ((aC (af ((some (.int 1)).bind cg) (af ((ρ[2]?).join) (af (ae ((some (.int 1)).bind cg) ((ρ[4]?).join) dj) (af (ae ((ρ[2]?).join) ((ρ[4]?).join) bu) (some [])))))).map .list) (ae (ae ((ρ[1]?).join) (some (.int 20)) aU) (some (.int 4)) aM) ay) (some []))).map .list)).map .list) ((cutD ((ρ[3]?).join) ((((ρ[5]?).join).bind dh).map some) (some none)).map .list)).map .list)) (fun ρ=>ax 3 ρ ((bZ ((ρ[3]?).join) (ae ((aC (af ((aC (af ((some (.int 1)).bind cg) (some []))).map .list) (af ((aC (some [])).map .list) (some [])))).map .list) (ae (ae ((ρ[1]?).join) (some (.int 100)) aU) (some (.int 2)) aM) ay)).map .list)))) ρ) (some (.nx ρ))) (av (fun ρ=>ax 6 ρ (ae ((aC (af ((aC (some [])).map .list) (af ((aC (af (cP .tuple (af (some (.int 0)) (af (some (.int 1)) (some [])))) (some []))).map .list) (af ((aC (af (cP .tuple (af (ae (ae (some (.int 2)) ((ρ[2]?).join) bT) (some (.int 1)) dj) (af (some (.int 2)) (some [])))) (some []))).map .list) (some []))))).map .list) (ae (ae ((ρ[1]?).join) (some (.int 200)) aU) (some (.int 3)) aM) ay)) (av (fun ρ=>aA (aw (ae (ae (ae ((ρ[1]?).join) (some (.int 600)) aU) (some (.int 2)) aM) (some (.int 1)) aF)) ((av (fun ρ=>ax 6 ρ ((bZ ((ρ[6]?).join) ((aC (af (ae ((aC (af (cP .tuple (af ((ρ[2]?).join) (af (some (.int 1)) (some [])))) (af (cP .tuple (af ((some (.int 1)).bind cg) (af (some (.int 2)) (some [])))) (af (cP .tuple (af (ae ((ρ[2]?).join) ((ρ[4]?).join) bu) (af (some (.int 1)) (some [])))) (af (cP .tuple (af (ae ((some (.int 1)).bind cg) (ae (some (.int 3)) ((ρ[4]?).join) bT) dj) (af (some (.int 3)) (some [])))) (some [])))))).map .list) (ae (ae ((ρ[1]?).join) (some (.int 1200)) aU) (some (.int 4)) aM) ay) (some []))).map .list)).map .list)) (fun ρ=>ax 6 ρ ((bZ ((ρ[6]?).join) (ae ((aC (af ((aC (some [])).map .list) (af ((aC (af (cP .tuple (af ((some (.int 1)).bind cg) (af (some (.int 1)) (some [])))) (some []))).map .list) (some [])))).map .list) (ae (ae ((ρ[1]?).join) (some (.int 4800)) aU) (some (.int 2)) aM) ay)).map .list))) ρ) (some (.nx ρ))) (av (fun ρ=>ax 7 ρ (ae ((aC (af (ae (some (.int 1)) (ae (ae ((ρ[1]?).join) (some (.int 5000)) aU) (some (.int 3)) aM) bu) (af (ae (some (.int 1)) (ae (ae ((ρ[1]?).join) (some (.int 5000)) aU) (some (.int 3)) aM) bu) (af (some (.int 0)) (af (ae ((some (.int 1)).bind cg) ((ρ[4]?).join) dj) (some [])))))).map .list) (ae (ae ((ρ[1]?).join) (some (.int 20000)) aU) (some (.int 4)) aM) ay)) (av (fun ρ=>aA (aw (ae (ae (ae ((ρ[1]?).join) (ae (some (.int 10)) (some (.int 6)) bI) aU) (some (.int 4)) aM) (some (.int 1)) aF)) (ax 2 ρ (ae ((aC (af (some (.int 0)) (af (ae ((some (.int 1)).bind cg) ((ρ[4]?).join) dj) (some [])))).map .list) (ae (ae ((ρ[1]?).join) (ae (some (.int 10)) (some (.int 7)) bI) aU) (some (.int 2)) aM) ay)) (some (.nx ρ))) (av (fun ρ=>ax 8 ρ (ae (ae ((ρ[1]?).join) (ae (some (.int 10)) (some (.int 8)) bI) aU) (some (.int 5)) aM)) (av (fun ρ=>ax 9 ρ ((cM (aO 0) k_ kY ((af ((af ((ρ[3]?).join) (some [])).bind cw) (some [])).bind i5) (frees 1 [3,2] ρ)).map .list)) (fun ρ=>((aC (some [])).map .list).bind fun d=>((av (fun ρ=>ej (ey 2 (bM (aO 11) (bM (aO 12) dE))) mT ((((ρ[6]?).join).bind br).map dg) ρ) (av (fun ρ=>ax 13 ρ ((aC (af (some (.str (Str.ofString ""))) (af (some (.int 0)) (some [])))).map .list)) (av (fun ρ=>aA (cU (aw (ae ((ρ[8]?).join) (some (.int 0)) aF)) (aw (ae ((ρ[10]?).join) ((aC (some [])).map .list) cO))) (ax 13 ρ ((aC (af (some (.str (Str.ofString "NoPost"))) (af ((ae ((ρ[10]?).join) (some (.int 0)) ay).filter lf) (some [])))).map .list)) (some (.nx ρ))) (av (fun ρ=>aA (cU (aw (ae ((ρ[8]?).join) (some (.int 0)) aF)) (cU (aw (ae ((ρ[6]?).join) ((aC (some [])).map .list) aF)) (aw (ae ((ρ[3]?).join) ((aC (some [])).map .list) cO)))) (ax 13 ρ ((aC (af (some (.str (Str.ofString "NoPosts"))) (af (some (.int 0)) (some [])))).map .list)) (some (.nx ρ))) (av (fun ρ=>aA (aw (ae ((ρ[9]?).join) ((aC (some [])).map .list) cO)) (ax 13 ρ ((aC (af (some (.str (Str.ofString "NoFolk"))) (af ((ae ((ρ[9]?).join) (some (.int 0)) ay).filter lf) (some [])))).map .list)) (some (.nx ρ))) (av (fun ρ=>aA (aw (ae ((ρ[2]?).join) (some (.int 1)) bx)) (ax 13 ρ ((aC (af (some (.str (Str.ofString "NoRing"))) (af (some (.int 0)) (some [])))).map .list)) (some (.nx ρ))) (av (fun ρ=>aA (cU (aw (kd (some (.int 0)) ((ρ[8]?).join) bx bx (some (.int 4)))) (aw (ae ((ρ[7]?).join) (some (.int 1)) bx))) (ax 13 ρ ((aC (af (some (.str (Str.ofString "NoMany"))) (af (some (.int 0)) (some [])))).map .list)) (some (.nx ρ))) (av (fun ρ=>ax 14 ρ ((af ((ρ[8]?).join) (af ((ρ[2]?).join) (af ((ρ[3]?).join) (af ((ρ[6]?).join) (af ((ρ[7]?).join) (some [])))))).bind jb)) (av (fun ρ=>aA (aw (ae (ae ((ρ[13]?).join) (some (.int 0)) ay) (some (.str (Str.ofString ""))) aF)) ((ae ((ρ[14]?).join) (some .none) og).map .rt) (some (.nx ρ))) (fun ρ=>(gu (ae ((af ((ρ[14]?).join) (some [])).bind dW) (ae ((ρ[13]?).join) (some (.int 0)) ay) aF) (gD (ae (ae ((ρ[13]?).join) (some (.int 0)) ay) ((aC (af (some (.str (Str.ofString "NoFolk"))) (af (some (.str (Str.ofString "NoPost"))) (some [])))).map .list) e8) (ae (((ρ[14]?).join).bind (iS aR "number")) (ae ((ρ[13]?).join) (some (.int 1)) ay) aF))).map .rt)))))))))) (ρ.set 10 (some d))).bind mf))))))))))
def k6:List PyData->Option PyData:=bz 1 14 kU
end NW
namespace NW
open L2
local macro_rules | `(tactic| walk_at "ev")=>`(tactic| try simp only[bz,zy,z7,z8,List.length_cons,List.length_nil,Nat.reduceAdd,reduceIte,List.map_cons,List.map_nil,List.reduceReplicate,List.append_nil,List.nil_append,List.cons_append,List.getElem?_cons_zero,List.getElem?_cons_succ,List.set_cons_zero,List.set_cons_succ,Option.join_some,Option.bind_some,Option.map_some,Option.filter_some,nP,dv,nO,vU,u6,u5,yy,yx,u9,u7,yA,yz,yk,zB,zA,v5,wy,vh,bh,nF,o8,f7,xG,rj,kj,g9,rW,xm,xq,aO,cg,xJ,xK,oj,Aa,zw,zG,zH,zI,zJ,zK,zL,yC,yB,Bool.not_true,Bool.not_false])
def qg:aa->Option aq:=fun ρ=>aA (dr (aw (ae ((ρ[3]?).join) (some (.int 0)) bx)) (aw (ae ((ρ[3]?).join) ((ρ[0]?).join) eu))) (none) (some (.nx ρ))
def ue:aa->Option aq:=av (fun ρ=>aA (aw (ae ((ρ[0]?).join) (some (.int 1)) bx)) (none) (some (.nx ρ))) (fun ρ=>ej (ey 2 (bM (aO 2) (bM (aO 3) dE))) qg ((((ρ[1]?).join).bind br).map dg) ρ)
def gN:List PyData->Option PyData:=bz 2 2 ue
def ud:aa->Option aq:=fun ρ=>aA (cU (aw (ae ((af ((ρ[0]?).join) (some [])).bind cw) (some (.int 0)) km)) (aw (ae ((af ((ρ[1]?).join) (some [])).bind cw) (some (.int 0)) aF))) (none) (some (.nx ρ))
def mJ:List PyData->Option PyData:=bz 2 0 ud
def qh:aa->Option aq:=fun ρ=>aA (dr (aw (ae (ae ((ρ[3]?).join) (some (.int 0)) ay) (some (.int 0)) bx)) (aw (ae (ae ((ρ[3]?).join) (some (.int 0)) ay) (ae ((ρ[0]?).join) (ae ((ρ[3]?).join) (some (.int 1)) ay) bT) eu))) (none) (some (.nx ρ))
def uf:aa->Option aq:=fun ρ=>ej (ey 2 (bM (aO 2) (bM (aO 3) dE))) qh ((((ρ[1]?).join).bind br).map dg) ρ
def mK:List PyData->Option PyData:=bz 2 2 uf
def ui:aa->Option aq:=av (fun ρ=>eJ ρ ((af ((ρ[0]?).join) (af ((ρ[1]?).join) (some []))).bind gN)) (av (fun ρ=>eJ ρ ((af ((ρ[1]?).join) (af ((ρ[2]?).join) (some []))).bind mJ)) (av (fun ρ=>eJ ρ ((af ((ρ[0]?).join) (af ((ρ[2]?).join) (some []))).bind mK)) (fun ρ=>(((iK [0] ρ).bind fun cs=>(af ((ρ[1]?).join) (af ((ρ[2]?).join) (some []))).bind fun ds=>je (clo "ring_reach@0" cs::ds)).filter nf).map .rt)))
def p6:List PyData->Option PyData:=bz 3 0 ui
def uc:aa->Option aq:=fun ρ=>aA (aw (ae ((ρ[0]?).join) (some (.int 1)) bx)) (none) (some (.nx ρ))
def jZ:List PyData->Option PyData:=bz 1 0 uc
def ug:aa->Option aq:=av (fun ρ=>eJ ρ ((af ((ρ[2]?).join) (some [])).bind jZ)) (av (fun ρ=>eJ ρ ((af ((ρ[0]?).join) (af ((ρ[1]?).join) (some []))).bind gN)) (fun ρ=>((af ((af ((ρ[0]?).join) (af ((((ρ[1]?).join).bind eR).map .list) (af ((ρ[2]?).join) (some [])))).bind eW) (af (some (.int 2)) (some []))).bind fN).map .rt))
def pZ:List PyData->Option PyData:=bz 3 0 ug
def uh:aa->Option aq:=av (fun ρ=>eJ ρ ((af ((ρ[2]?).join) (some [])).bind jZ)) (av (fun ρ=>eJ ρ ((af ((ρ[0]?).join) (af ((ρ[1]?).join) (some []))).bind gN)) (av (fun ρ=>ax 3 ρ ((((ρ[1]?).join).bind eR).map .list)) (av (fun ρ=>ax 4 ρ ((af ((ρ[0]?).join) (af ((ρ[3]?).join) (af ((ρ[2]?).join) (some [])))).bind eW)) (av (fun ρ=>ax 5 ρ ((cM (aO 0) (fun _=>some true) mC (((af ((ρ[0]?).join) (af ((ρ[3]?).join) (af ((ρ[4]?).join) (some [])))).bind gh).bind br) (frees 1 [4,0] ρ)).map .list)) (fun ρ=>((cM (aO 0) (fun _=>some true) mD (((((ρ[5]?).join).bind kH).map .list).bind br) (frees 1 [] ρ)).map .list).map .rt)))))
def p5:List PyData->Option PyData:=bz 3 3 uh
def uj:aa->Option aq:=av (fun ρ=>eJ ρ ((af ((ρ[2]?).join) (some [])).bind jZ)) (av (fun ρ=>eJ ρ ((af ((ρ[0]?).join) (af ((ρ[1]?).join) (some []))).bind gN)) (av (fun ρ=>ax 3 ρ ((((ρ[1]?).join).bind eR).map .list)) (av (fun ρ=>ax 4 ρ ((af ((ρ[0]?).join) (af ((ρ[3]?).join) (af ((ρ[2]?).join) (some [])))).bind eW)) (av (fun ρ=>aA (aw (ae ((ρ[4]?).join) (some (.int 0)) aF)) ((some .none).map .rt) (some (.nx ρ))) (fun ρ=>((cM (aO 0) (fun _=>some true) mE (((ρ[3]?).join).bind br) (frees 1 [0,3,4,2] ρ)).map .list).map .rt)))))
def p7:List PyData->Option PyData:=bz 3 2 uj
def my:aa->Option aq:=av (fun ρ=>eJ ρ ((af ((ρ[0]?).join) (af ((ρ[1]?).join) (some []))).bind gN)) (av (fun ρ=>aA (aw (ae (ae ((ρ[2]?).join) (some (.int 0)) ay) (some (.int 0)) lT)) ((some (.bool false)).map .rt) (some (.nx ρ))) (av (fun ρ=>ax 4 ρ ((((ρ[1]?).join).bind eR).map .list)) (av (fun ρ=>aA (aw (ae ((af ((ρ[3]?).join) (some [])).bind cw) ((af ((ρ[4]?).join) (some [])).bind cw) cO)) ((some (.bool false)).map .rt) (some (.nx ρ))) (av (fun ρ=>ax 5 ρ ((ae (ae ((some (.int 2)).bind cg) (ae ((ρ[2]?).join) (some (.int 0)) ay) bT) (ae ((ρ[2]?).join) (some (.int 1)) ay) aU).bind cg)) (av (fun ρ=>ej (ey 2 (bM (aO 6) (bM (aO 7) dE))) uB (tY (((ρ[4]?).join).bind br) (((ρ[3]?).join).bind br)) ρ) (fun ρ=>(some (.bool true)).map .rt))))))
def uw:List PyData->Option PyData:=bz 4 4 my
def eE (F:aa->Option aq)(G:aa->Option bf):Prop:=∀ ρ o,F ρ=some o->G ρ=some o.x
theorem fZ {F G:aa->Option aq}{FX GX:aa->Option bf}(h1:eE F FX)(h2:eE G GX):eE (av F G) (du FX GX):=fun ρ o h=>by
 unfold av at h
 unfold du
 cases hF:F ρ with
 | none=>rw[hF] at h;cases h
 | some q=>
  rw[hF] at h
  rw[h1 ρ q hF]
  cases q with
  | nx ρ'=>exact h2 ρ' o h
  | rt d=>cases h;rfl
  | bk ρ'=>cases h;rfl
  | ct ρ'=>cases h;rfl
theorem lV (F:aa->Option aq):eE F (fun ρ=>(F ρ).map aq.x):=fun ρ o h=>by
 show (F ρ).map aq.x=_
 rw[h]
 rfl
theorem gC {f:aa->Option PyData}{g:aa->Option RX}(h:∀ ρ d,f ρ=some d->g ρ=some (.ret d)):eE (fun ρ=>eJ ρ (f ρ)) (fun ρ=>bw ρ (g ρ)):=fun ρ o q=>by
 have q:eJ ρ (f ρ)=some o:=q
 show bw ρ (g ρ)=_
 cases hf:f ρ with
 | none=>rw[hf] at q;cases q
 | some d=>rw[hf] at q;cases q;rw[h ρ d hf];rfl
theorem lU {t:aa->Option Bool}{A B:aa->Option aq}{AX BX:aa->Option bf}(h1:eE A AX)(h2:eE B BX):eE (fun ρ=>aA (t ρ) (A ρ) (B ρ)) (fun ρ=>aA (t ρ) (AX ρ) (BX ρ)):=fun ρ o h=>by
 have h:aA (t ρ) (A ρ) (B ρ)=some o:=h
 show aA (t ρ) (AX ρ) (BX ρ)=_
 cases ht:t ρ with
 | none=>rw[ht] at h;cases h
 | some b=>
  rw[ht] at h
  cases b with
  | true=>exact h1 ρ o h
  | false=>exact h2 ρ o h
theorem lW (G:aa->Option bf):eE (fun _=>none) G:=fun ρ o h=>by cases h
theorem lX:eE (fun ρ=>some (.nx ρ)) (fun ρ=>some (.nx ρ)):=fun ρ o h=>by cases h;rfl
theorem rD {S:PyData->aa->Option aa}{L:aa->Option aq}{LX:aa->Option bf}(hL:eE L LX):∀ (ds:List PyData) (ρ:aa) (o:aq),cA S L ds ρ=some o->fW S LX ds ρ=some o.x
 | [],ρ,o,h=>by cases h;rfl
 | d::r,ρ,o,h=>by
  rw[cA] at h
  rw[fW]
  cases hS:S d ρ with
  | none=>rw[hS] at h;cases h
  | some ρ1=>
   rw[hS,Option.bind_some] at h
   rw[Option.bind_some]
   cases hq:L ρ1 with
   | none=>rw[hq] at h;cases h
   | some q=>
    rw[hq] at h
    rw[hL ρ1 q hq]
    cases q with
    | nx ρ2=>exact rD hL r ρ2 o h
    | ct ρ2=>exact rD hL r ρ2 o h
    | bk ρ2=>cases h;rfl
    | rt v=>cases h;rfl
theorem xH {S:PyData->aa->Option aa}{L:aa->Option aq}{LX:aa->Option bf}{x:aa->Option (List PyData)}(hL:eE L LX):eE (fun ρ=>ej S L (x ρ) ρ) (fun ρ=>lH S LX (x ρ) ρ):=fun ρ o h=>by
 have h:ej S L (x ρ) ρ=some o:=h
 show lH S LX (x ρ) ρ=_
 cases hx:x ρ with
 | none=>rw[hx] at h;cases h
 | some ds=>rw[hx] at h;exact rD hL ds ρ o h
theorem ic {n m:Nat}{B:aa->Option aq}{BX:aa->Option bf}(h:eE B BX){as:List PyData}{d:PyData}(q:bz n m B as=some d):eQ n m BX as=some (.ret d):=by
 unfold bz at q
 unfold eQ
 split at q
 ·rename_i hc
  rw[if_pos hc]
  cases hB:B (as.map some++List.replicate m none) with
  | none=>rw[hB] at q;cases q
  | some o=>
   rw[hB] at q
   rw[h _ o hB]
   cases o with
   | nx ρ=>cases q;rfl
   | rt v=>cases q;rfl
   | bk ρ=>cases q
   | ct ρ=>cases q
 ·cases q
theorem gv {f:aa->Option (List PyData)}{F:List PyData->Option PyData}{G:List PyData->Option RX}(h:∀ as d,F as=some d->G as=some (.ret d)):∀ ρ d,(f ρ).bind F=some d->(f ρ).bind G=some (.ret d):=fun ρ d q=>by
 cases hf:f ρ with
 | none=>rw[hf] at q;cases q
 | some as=>rw[hf] at q;exact h as d q
theorem rM {as:List PyData}{d:PyData}(q:jZ as=some d):dA as=some (.ret d):=ic (lU (lW _) lX) q
theorem l_ {as:List PyData}{d:PyData}(q:gN as=some d):bU as=some (.ret d):=ic (fZ (lU (lW _) lX) (xH (lU (lW _) lX))) q
theorem yQ {as:List PyData}{d:PyData}(q:mJ as=some d):fL as=some (.ret d):=ic (lU (lW _) lX) q
theorem Il {as:List PyData}{d:PyData}(q:mK as=some d):iy as=some (.ret d):=ic (xH (lU (lW _) lX)) q
theorem Io {as:List PyData}{d:PyData}(q:p6 as=some d):gg as=some (.ret d):=ic (fZ (gC (gv fun _ _=>l_)) (fZ (gC (gv fun _ _=>yQ)) (fZ (gC (gv fun _ _=>Il)) (lV _)))) q
theorem Ia {as:List PyData}{d:PyData}(q:pZ as=some d):gH as=some (.ret d):=ic (fZ (gC (gv fun _ _=>rM)) (fZ (gC (gv fun _ _=>l_)) (lV _))) q
theorem Ik {as:List PyData}{d:PyData}(q:p5 as=some d):gJ as=some (.ret d):=ic (fZ (gC (gv fun _ _=>rM)) (fZ (gC (gv fun _ _=>l_)) (lV _))) q
theorem Iq {as:List PyData}{d:PyData}(q:p7 as=some d):gK as=some (.ret d):=ic (fZ (gC (gv fun _ _=>rM)) (fZ (gC (gv fun _ _=>l_)) (lV _))) q
theorem HW {as:List PyData}{d:PyData}(q:uw as=some d):iz as=some (.ret d):=ic (fZ (gC (gv fun _ _=>l_)) (lV _)) q
local macro_rules | `(tactic| walk_at "ev")=>`(tactic| try simp only[bz,zy,z7,z8,List.length_cons,List.length_nil,Nat.reduceAdd,reduceIte,List.map_cons,List.map_nil,List.reduceReplicate,List.append_nil,List.nil_append,List.cons_append,List.getElem?_cons_zero,List.getElem?_cons_succ,List.set_cons_zero,List.set_cons_succ,Option.join_some,Option.bind_some,Option.map_some,Option.filter_some,nP,dv,nO,vU,u6,u5,yy,yx,u9,u7,yA,yz,yk,zB,zA,v5,wy,vh,bh,nF,o8,f7,xG,rj,kj,g9,rW,xm,xq,aO,cg,xJ,xK,oj,Aa,zw,zG,zH,zI,zJ,zK,zL,yC,yB,Bool.not_true,Bool.not_false])
theorem vm (p q:Int×Int)(h1:bd p.1 500)(h2:bd p.2 500)(h3:bd q.1 500)(h4:bd q.2 500):iC [encP p,encP q]=some (.bool (decide (p.1*q.2<q.1*p.2))):=by
 rw[iC]
 walk_at "ev"
 simp only[pC,encP]
 walk_at "ev"
 simp only[di (h1.big (by decide)) (h4.big (by decide)),di (h3.big (by decide)) (h2.big (by decide))]
 walk_at "ev"
theorem vD:∀ (n:Nat) (a b:Int) (c:Option PyData),0≤b->b.natAbs<n->∃ c',cQ lx mV n [some (.int a),some (.int b),c]=some (.nx [some (.int (if b=0 then a else (Int.gcd a b:Int))),some (.int 0),c'])
 | 0,a,b,c,_,h=>by omega
 | n+1,a,b,c,h0,h=>by
  by_cases hb:b=0
  ·subst hb
   refine⟨c,?_⟩
   have e1:lx [some (.int a),some (.int 0),c]=some false:=rfl
   rw[cQ,e1]
   rfl
  ·have hp:0<b:=by omega
   have hm:0≤a % b:=Int.emod_nonneg a hb
   have hl:a % b<b:=Int.emod_lt_of_pos a hp
   obtain⟨c',e⟩:=vD n b (a % b) (some (.int (a % b))) hm (by omega)
   refine⟨c',?_⟩
   have hbb:(b==0)=false:=by simpa using hb
   have e1:lx [some (.int a),some (.int b),c]=some true:=by simp only[lx];walk_at "ev";simp only[hbb];rfl
   have e2:mV [some (.int a),some (.int b),c]=some (.nx [some (.int b),some (.int (a % b)),some (.int (a % b))]):=by
    simp only[mV];walk_at "ev";simp only[b8 hp];walk_at "ev"
   rw[cQ,e1,Option.bind_some,if_pos rfl,e2,Option.bind_some]
   dsimp only
   rw[e,if_neg hb]
   by_cases hz:a % b=0
   ·have:=wH (a:=a) hp
    rw[hz] at this ⊢
    simp at this ⊢
    omega
   ·simp[hz,wH hp]
theorem BY (a b:Int)(h:0<b):jT [.int a,.int b]=some (.int (Int.gcd a b:Int)):=by
 obtain⟨c',e⟩:=vD (b.natAbs+1) a b none (by omega) (by omega)
 have hb:b≠0:=by omega
 have e1:rV [some (.int a),some (.int b),none] 1=b.natAbs:=rfl
 rw[jT]
 walk_at "ev"
 simp only[pk]
 walk_at "ev"
 rw[e1,e,if_neg hb]
 walk_at "ev"
theorem DZ {t b:Int}{n:Nat}(h:0<b)(hb:bd b n)(hn:n≤1000):fX (Int.gcd t b:Int)=true:=by
 refine (bd.of_le hb (by omega) ?_).big hn
 exact Int.le_of_dvd h (Int.gcd_dvd_right ..)
theorem rf (t b:Int)(h:0<b)(hb:bd b 500):fN [.int t,.int b]=some (encP (e9 t b)):=by
 have hg:=lL (t:=t) h
 rw[fN]
 walk_at "ev"
 simp only[pA]
 walk_at "ev"
 rw[BY t b h]
 walk_at "ev"
 simp only[cY hg (DZ h hb (by decide))]
 walk_at "ev"
 rfl
def nY (o p:Int×Int):Int×Int:=e9 (o.2*(if o.1*p.2 - p.1<0 then -(o.1*p.2 - p.1) else o.1*p.2 - p.1)) p.2
structure Sm (o:Int×Int):Prop where
 a:bd o.1 100
 b:bd o.2 100
structure Sp (o:Int×Int):Prop where
 a:bd o.1 200
 b:bd o.2 200
theorem Sm.p {o:Int×Int}(h:Sm o):Sp o:=⟨h.a.mono (by decide),h.b.mono (by decide)⟩
structure Fb (q:Int×Int):Prop where
 fr:ux q
 nn:0≤q.1
 a:bd q.1 500
 b:bd q.2 500
def lo (x y:Int×Int):Int×Int:=if y.1*x.2<x.1*y.2 then y else x
def hi (x y:Int×Int):Int×Int:=if x.1*y.2<y.1*x.2 then y else x
theorem xQ {x y:Int×Int}(hx:Fb x)(hy:Fb y):Fb (lo x y):=by unfold lo;split;exact hy;exact hx
theorem Ds {x y:Int×Int}(hx:Fb x)(hy:Fb y):Fb (hi x y):=by unfold hi;split;exact hy;exact hx
theorem wu {g:Int×Int->Int×Int->Int×Int}(hg:∀ x y,Fb x->Fb y->Fb (g x y)):∀ (ys:List (Int×Int)) (x:Int×Int),Fb x->(∀ y∈ys,Fb y)->Fb (ys.foldl g x)
 | [],x,hx,_=>hx
 | y::r,x,hx,h=>wu hg r (g x y) (hg x y hx (h y List.mem_cons_self)) fun z hz=>h z (List.mem_cons_of_mem _ hz)
theorem xI:∀ (ys:List (Int×Int)) (a:Option PyData) (x:Int×Int) (c:Option PyData),Fb x->(∀ y∈ys,Fb y)->∃ c',cA (aO 2) mX (ys.map encP) [a,some (encP x),c]=some (.nx [a,some (encP (ys.foldl lo x)),c'])
 | [],a,x,c,_,_=>⟨c,rfl⟩
 | y::r,a,x,c,hx,h=>by
  have hy:=h y List.mem_cons_self
  have e:mX [a,some (encP x),some (encP y)]=some (.nx [a,some (encP (lo x y)),some (encP y)]):=by
   simp only[mX]
   walk_at "ev"
   rw[vm y x hy.a hy.b hx.a hx.b]
   walk_at "ev"
   rw[rA]
   unfold lo
   split <;> rfl
  obtain⟨c',e2⟩:=xI r a (lo x y) (some (encP y)) (xQ hx hy) fun z hz=>h z (List.mem_cons_of_mem _ hz)
  refine⟨c',?_⟩
  rw[List.map_cons,cA]
  walk_at "ev"
  rw[e]
  exact e2
theorem wK:∀ (ys:List (Int×Int)) (a:Option PyData) (x:Int×Int) (c:Option PyData),Fb x->(∀ y∈ys,Fb y)->∃ c',cA (aO 2) mW (ys.map encP) [a,some (encP x),c]=some (.nx [a,some (encP (ys.foldl hi x)),c'])
 | [],a,x,c,_,_=>⟨c,rfl⟩
 | y::r,a,x,c,hx,h=>by
  have hy:=h y List.mem_cons_self
  have e:mW [a,some (encP x),some (encP y)]=some (.nx [a,some (encP (hi x y)),some (encP y)]):=by
   simp only[mW]
   walk_at "ev"
   rw[vm x y hx.a hx.b hy.a hy.b]
   walk_at "ev"
   rw[rA]
   unfold hi
   split <;> rfl
  obtain⟨c',e2⟩:=wK r a (hi x y) (some (encP y)) (Ds hx hy) fun z hz=>h z (List.mem_cons_of_mem _ hz)
  refine⟨c',?_⟩
  rw[List.map_cons,cA]
  walk_at "ev"
  rw[e]
  exact e2
theorem xj (x:Int×Int)(r:List (Int×Int)):ay (aX (x::r)) (.int 0)=some (encP x):=by show atI (encP x::r.map encP) 0=_;rw[qJ]
theorem xP (ps:List (Int×Int)):br (aX ps)=some (ps.map encP):=rfl
theorem Eu (x:Int×Int)(r:List (Int×Int))(h:∀ y∈x::r,Fb y):jd [aX (x::r)]=some (encP ((x::r).foldl lo x)):=by
 obtain⟨c',e⟩:=xI (x::r) (some (aX (x::r))) x none (h x List.mem_cons_self) h
 rw[jd]
 walk_at "ev"
 simp only[pE]
 walk_at "ev"
 rw[xj]
 walk_at "ev"
 rw[xP]
 walk_at "ev"
 rw[List.map_cons] at e
 rw[e]
 walk_at "ev"
theorem Dp (x:Int×Int)(r:List (Int×Int))(h:∀ y∈x::r,Fb y):jc [aX (x::r)]=some (encP ((x::r).foldl hi x)):=by
 obtain⟨c',e⟩:=wK (x::r) (some (aX (x::r))) x none (h x List.mem_cons_self) h
 rw[jc]
 walk_at "ev"
 simp only[pB]
 walk_at "ev"
 rw[xj]
 walk_at "ev"
 rw[xP]
 walk_at "ev"
 rw[List.map_cons] at e
 rw[e]
 walk_at "ev"
structure AB (p:Int×Int):Prop where
 sm:Sm p
 w:1≤p.2
structure KN (p:Int×Int):Prop where
 sm:Sp p
 b:0<p.2
def E7 (posts:List (Int×Int))(o:Int×Int):Int×Int:=match posts with
 | []=>(0,1)
 | q::r=>((q::r).map (nY o)).foldl lo (nY o q)
theorem Ku:Fb (0,1):=⟨⟨by decide,by decide⟩,by decide,(show bd 0 2 by unfold bd;decide).mono (by decide),(show bd 1 2 by unfold bd;decide).mono (by decide)⟩
def reach (folk posts:List (Int×Int)):Int×Int:=(folk.map (E7 posts)).foldl hi (0,1)
theorem Du {x:Int×Int}(h:Fb x):hi (0,1) x=x:=by
 unfold hi
 by_cases hc:(0:Int)*x.2<x.1*1
 ·rw[if_pos hc]
 ·rw[if_neg hc]
  have h1:x.1=0:=by have:=h.nn;omega
  have h2:=h.fr.co
  have h3:=h.fr.pos
  obtain⟨a,b⟩:=x
  simp only at h1 h2 h3 ⊢
  subst h1
  rw[Int.gcd_zero_left] at h2
  have:b=1:=by omega
  rw[this]
theorem Dt (x:Int×Int):hi x x=x:=by unfold hi;rw[if_neg (by omega)]
def fE {α β:Type}(fw:α->β->Int×Int)(posts:List β)(o:α):Int×Int:=match posts with
 | []=>(0,1)
 | q::r=>((q::r).map (fw o)).foldl lo (fw o q)
def l9 {α β:Type}(fw:α->β->Int×Int)(folk:List α)(posts:List β):Int×Int:=(folk.map (fE fw posts)).foldl hi (0,1)
theorem yc {α β:Type}{fw:α->β->Int×Int}{posts:List β}{o:α}(h:∀ p∈posts,Fb (fw o p)):Fb (fE fw posts o):=by
 cases posts with
 | nil=>exact Ku
 | cons q r=>
  refine wu (fun _ _=>xQ) _ _ (h q List.mem_cons_self) fun y hy=>?_
  obtain⟨p,h1,rfl⟩:=List.mem_map.mp hy
  exact h p h1
theorem Kq {α β:Type}(ea:α->PyData)(eb:β->PyData)(fw:α->β->Int×Int)(c:PyData)(o:α)(q:β)(r:List β)(B:β->Prop)(hw:∀ p,B p->d_ FT c [ea o,eb p]=some (encP (fw o p))∧Fb (fw o p))(hp:∀ p∈q::r,B p)(hl:(q::r).length≤1000) :
  jX [c,ea o,.list ((q::r).map eb)]=some (encP (fE fw (q::r) o)):=by
 have hc:=iN (S:=aO 0) (fe:=pU) eb encP (fw o) (fun ρ=>∃ a,ρ=[a,some c,some (ea o)]) B
  (fun x ρ hx ⟨a,e⟩=>⟨[some (eb x),some c,some (ea o)],by rw[e];rfl,⟨_,rfl⟩,by
   simp only[pU]
   walk_at "ev"
   exact (hw x hx).1⟩) (q::r) [none,some c,some (ea o)] ⟨_,rfl⟩ hp
 have hlen:((q::r).map eb).length≤1000:=by rw[List.length_map];exact hl
 have hle:=Eu (fw o q) (r.map (fw o)) (fun y hy=>by
  have:y∈(q::r).map (fw o):=by simpa using hy
  obtain⟨p,h1,rfl⟩:=List.mem_map.mp this
  exact (hw p (hp p h1)).2)
 have hfr:frees 1 [0,1] [some c,some (ea o),some (.list ((q::r).map eb))]=[none,some c,some (ea o)]:=rfl
 have hle':jd [.list (((q::r).map (fw o)).map encP)]=some (encP (fE fw (q::r) o)):=hle
 rw[jX]
 walk_at "ev"
 simp only[pK]
 walk_at "ev"
 rw[List.map_cons] at hfr hc hlen
 rw[hfr,iO hlen,hc]
 walk_at "ev"
 rw[List.map_cons,List.map_cons] at hle'
 rw[hle']
 walk_at "ev"
theorem HK {α β:Type}(fw:α->β->Int×Int)(o:α)(f:List α)(posts:List β)(h:Fb (fE fw posts o)):((o::f).map (fE fw posts)).foldl hi (fE fw posts o)=l9 fw (o::f) posts:=by
 unfold l9
 rw[List.map_cons,List.foldl_cons,List.foldl_cons,Dt,Du h]
theorem HP {α β:Type}(ea:α->PyData)(eb:β->PyData)(fw:α->β->Int×Int)(c:PyData)(A:α->Prop)(B:β->Prop)(hw:∀ o p,A o->B p->d_ FT c [ea o,eb p]=some (encP (fw o p))∧Fb (fw o p))(folk:List α)(posts:List β)(hf:∀ o∈folk,A o)(hp:∀ p∈posts,B p)
  (hl:folk.length≤1000) (hl2:posts.length≤1000) (hn:folk=[]∨posts≠[]):je [c,.list (folk.map ea),.list (posts.map eb)]=some (encP (l9 fw folk posts)):=by
 rw[je]
 walk_at "ev"
 simp only[pG]
 walk_at "ev"
 cases folk with
 | nil=>rfl
 | cons o f=>
  cases posts with
  | nil=>rcases hn with z | z;cases z;exact absurd rfl z
  | cons q r=>
   have hcm:=iN (S:=aO 0) (fe:=pR) ea encP (fE fw (q::r)) (fun ρ=>∃ a,ρ=[a,some c,some (.list ((q::r).map eb))]) A
    (fun x ρ hx ⟨a,e⟩=>⟨[some (ea x),some c,some (.list ((q::r).map eb))],by rw[e];rfl,⟨_,rfl⟩,by
     simp only[pR]
     walk_at "ev"
     exact Kq ea eb fw c x q r B (fun p hb=>hw x p hx hb) hp hl2⟩) (o::f) [none,some c,some (.list ((q::r).map eb))] ⟨_,rfl⟩ hf
   have hlen:((o::f).map ea).length≤1000:=by rw[List.length_map];exact hl
   have hfr:frees 1 [0,2] [some c,some (.list ((o::f).map ea)),some (.list ((q::r).map eb))]=[none,some c,some (.list ((q::r).map eb))]:=rfl
   have hge:=Dp (fE fw (q::r) o) (f.map (fE fw (q::r))) (fun y hy=>by
    have:y∈(o::f).map (fE fw (q::r)):=by simpa using hy
    obtain⟨p,h1,rfl⟩:=List.mem_map.mp this
    exact yc fun z hz=>(hw p z (hf p h1) (hp z hz)).2)
   have hge':jc [.list (((o::f).map (fE fw (q::r))).map encP)]=some (encP (l9 fw (o::f) (q::r))):=by
    rw[← HK fw o f (q::r) (yc fun z hz=>(hw o z (hf o List.mem_cons_self) (hp z hz)).2)]
    exact hge
   have z1:((((o::f).map ea).length:Int)==0)=false:=by simp;omega
   rw[List.map_cons] at z1 hcm hlen hfr
   walk_at "ev"
   rw[List.length_cons] at z1
   rw[z1]
   walk_at "ev"
   rw[List.map_cons] at hfr hcm
   rw[hfr,iO hlen,hcm]
   walk_at "ev"
   rw[List.map_cons,List.map_cons] at hge'
   rw[hge']
   walk_at "ev"
theorem vH (as bs:List PyData)(h:as=[]∨bs≠[]):mJ [.list as,.list bs]=some .none:=by
 rw[mJ]
 walk_at "ev"
 simp only[ud]
 walk_at "ev"
 rcases h with rfl | h
 ·rfl
 ·have z:((bs.length:Int)==0)=false:=by
   cases bs with
   | nil=>exact absurd rfl h
   | cons b r=>simp;omega
  cases as with
  | nil=>rfl
  | cons a r=>
   have z1:decide ((0:Int)<(((a::r).length:Nat):Int))=true:=by simp
   rw[z1]
   walk_at "ev"
   rw[z]
   walk_at "ev"
local macro_rules | `(tactic| walk_at "pw")=>`(tactic| try simp only[G_,Ha,G4,yR,yS,G6,G7,G8,G9])
theorem qO (ns:List Int)(k:Int)(h:0≤k):fM [.list (ns.map .int),.int k]=some (.int (ns.getD k.toNat 0)):=by
 rw[fM]
 walk_at "ev"
 simp only[pe]
 walk_at "ev"
 rw[List.length_map]
 by_cases hk:k<ns.length
 ·rw[decide_eq_true hk]
  walk_at "ev"
  rw[vE h hk]
  walk_at "ev"
 ·rw[decide_eq_false hk]
  walk_at "ev"
  have:ns.length≤k.toNat:=by omega
  simp[List.getD,this]
theorem rS (u k:Int)(hk:bd k 60):∃ m:Int,0≤m∧ff [.int u,.int k]=some (.int m):=by
 rw[ff]
 walk_at "ev"
 simp only[pf]
 walk_at "ev"
 walk_at "pw"
 walk_at "ev"
 by_cases hu:(10:Int) ^ 18≤u
 ·refine⟨u - 10 ^ 18,by omega,?_⟩
  rw[decide_eq_true hu]
  walk_at "ev"
 ·rw[decide_eq_false hu]
  walk_at "ev"
  walk_at "pw"
  walk_at "ev"
  rw[b8 (by decide)]
  walk_at "ev"
  have b0:bd (u % 10 ^ 60) 200:=by
   have h1:0≤u % 10 ^ 60:=Int.emod_nonneg _ (by decide)
   have h2:u % 10 ^ 60<10 ^ 60:=Int.emod_lt_of_pos _ (by decide)
   have:bd (10 ^ 60) 200:=by unfold bd;decide
   exact this.of_le h1 (by omega)
  have b1:bd 40503 60:=by unfold bd;decide
  have b2:bd 1812433253982451697 100:=by unfold bd;decide
  have b3:bd 7919 400:=(show bd 7919 60 by unfold bd;decide).mono (by decide)
  have b4:bd 739108512309184756019283746561 100:=by unfold bd;decide
  simp only[di (b0.big (by decide)) (b0.big (by decide)),di (b1.big (by decide)) (hk.big (by decide))]
  walk_at "ev"
  simp only[di ((b1.mul hk).big (by decide)) (hk.big (by decide))]
  walk_at "ev"
  walk_at "pw"
  walk_at "ev"
  have b5:=(((b0.mul b0).add (((b1.mul hk).mul hk).mono (by decide))).add (b3.mono (by decide)))
  simp only[di (b5.big (by decide)) (b2.big (by decide))]
  walk_at "ev"
  rw[b8 (by decide)]
  walk_at "ev"
  generalize hn:(u % 10 ^ 60*(u % 10 ^ 60)+40503*k*k+7919)*1812433253982451697 % (10 ^ 18+9)=n
  have b6:bd n 100:=by
   have h1:0≤n:=by rw[← hn];exact Int.emod_nonneg _ (by decide)
   have h2:n<10 ^ 18+9:=by rw[← hn];exact Int.emod_lt_of_pos _ (by decide)
   have:bd (10 ^ 18+9) 100:=by unfold bd;decide
   exact this.of_le h1 (by omega)
  simp only[di (b6.big (by decide)) (b6.big (by decide))]
  walk_at "ev"
  have b7:=(b6.mul b6).add (hk.mono (n:=100+100) (by decide))
  simp only[di (b7.big (by decide)) (b4.big (by decide))]
  walk_at "pw"
  walk_at "ev"
  rw[b8 (by decide)]
  exact⟨_,Int.emod_nonneg _ (by decide),rfl⟩
theorem cL {a:Int}(h1:-(10 ^ 24)≤a)(h2:a≤10 ^ 24):bd a 100:=by
 unfold bd
 have:(2:Nat) ^ 100=1267650600228229401496703205376:=by decide
 omega
structure uv (p:Int×Int):Prop where
 l:-(10 ^ 20)≤p.1
 u:p.1≤10 ^ 20
 w:1≤p.2
 v:p.2≤10 ^ 9
theorem uv.folk {p:Int×Int}(h:uv p):AB p:=⟨⟨cL (by have:=h.l;omega) (by have:=h.u;omega),cL (by have:=h.w;omega) (by have:=h.v;omega)⟩,h.w⟩
def Dh (o p:Int×Int):Int:=if o.1 - p.1<0 then -(o.1 - p.1) else o.1 - p.1
def EJ (o p:Int×Int):Int×Int:=e9 (o.2*p.2*Dh o p) (o.2+p.2)
def absI (a:Int):Int:=if a<0 then -a else a
def kr (p q:Int×Int):Prop:=p.1*q.2<q.1*p.2
instance (p q:Int×Int):Decidable (kr p q):=by unfold kr;exact inferInstance
def wM (r o:Int×Int):Int×Int:=e9 (o.1*(r.2*o.2)+r.1) (r.2*o.2)
structure KC (r:Int×Int)(g:Nat->Int×Int)(ks:List Nat)(ns:List Nat):Prop where
 sub:∀ n∈ns,n∈ks
 some:ks≠[]->ns≠[]
 nod:ns.Nodup
 apart:ns.Pairwise fun n m=>kr r (EJ (g n) (g m))
 rise:(ns.map fun n=>wM r (g n)).Pairwise kr
 cov:∀ k∈ks,∃ n∈ns,¬ kr r (nY (g k) (wM r (g n)))
structure KO (r:Int×Int):Prop where
 nn:0≤r.1
 pos:0<r.2
 a:bd r.1 150
 b:bd r.2 60
def Bl (fk:List (Int×Int))(k:Nat):Int×Int:=fk.getD k (0,1)
theorem vQ {α:Type}{S:PyData->aa->Option aa}{ft:aa->Option Bool}{fe:aa->Option PyData}(ea:α->PyData)(p:α->Bool)(R:aa->Prop)(ok:α->Prop)
  (hS:∀ x ρ,ok x->R ρ->∃ ρ1,S (ea x) ρ=some ρ1∧R ρ1∧ft ρ1=some (p x)∧fe ρ1=some (ea x)):∀ (xs:List α) (ρ:aa),R ρ->(∀ x∈xs,ok x)->eH S ft fe (xs.map ea) ρ=some ((xs.filter p).map ea)
 | [],ρ,_,_=>rfl
 | x::r,ρ,h,ho=>by
  obtain⟨ρ1,h1,h2,h3,h4⟩:=hS x ρ (ho x List.mem_cons_self) h
  have ih:=vQ ea p R ok hS r ρ1 h2 fun y hy=>ho y (List.mem_cons_of_mem _ hy)
  rw[List.map_cons,eH,h1]
  simp only[Option.bind_some,h3,h4,ih]
  by_cases hp:p x=true
  ·rw[if_pos hp,List.filter_cons_of_pos hp]
   rfl
  ·rw[if_neg hp,List.filter_cons_of_neg hp]
def keep (fk:List (Int×Int))(r p:Int×Int)(ks:List Nat):List Nat:=ks.filter fun z=>decide (kr r (nY (Bl fk z) p))
theorem G5:bI (.int 10) (.int 25)=some (.int (10 ^ 25)):=rfl
theorem Ay {t b:Int}(ht:0≤t)(h:0<b)(h1:bd t 500)(h2:bd b 500):Fb (e9 t b):=⟨HQ h,HR ht h,h1.red1 h,h2.red2 h⟩
def hW (x:Int)(p:Int×Int):Int:=if x*p.2 - p.1<0 then -(x*p.2 - p.1) else x*p.2 - p.1
def e7 (i j:Int):Int:=if j<i then j else i
def me (a x:Int)(p:Int×Int):Int×Int:=e9 (e7 (hW x p) (a*p.2 - hW x p)) p.2
structure dB (a:Int):Prop where
 l:1≤a
 u:a≤10 ^ 20
structure cj (a x:Int):Prop where
 l:0≤x
 u:x<a
structure gm (a:Int)(p:Int×Int):Prop where
 sm:Sp p
 b:0<p.2
 l:0≤p.1
 u:p.1<a*p.2
theorem dB.bd {a:Int}(h:dB a):bd a 100:=cL (by have:=h.l;omega) (by have:=h.u;omega)
theorem cj.bd {a x:Int}(ha:dB a)(h:cj a x):bd x 100:=cL (by have:=h.l;omega) (by have:=h.u;have:=ha.u;omega)
theorem wG {a x:Int}{p:Int×Int}(ha:dB a)(hx:cj a x)(hp:gm a p):bd (hW x p) 301:=(((cj.bd ha hx).mul hp.sm.b).sub (hp.sm.a.mono (by decide))).absI
theorem Di {a x:Int}{p:Int×Int}(ha:dB a)(hx:cj a x)(hp:gm a p):0≤hW x p∧hW x p≤a*p.2:=by
 have h1:0≤x*p.2:=Int.mul_nonneg hx.l (Int.le_of_lt hp.b)
 have h2:x*p.2<a*p.2:=Int.mul_lt_mul_of_pos_right hx.u hp.b
 have h3:=hp.l
 have h4:=hp.u
 unfold hW
 generalize x*p.2=u at *
 generalize a*p.2=v at *
 split <;> omega
theorem EM {i j:Int}{n:Nat}(hi:bd i n)(hj:bd j n):bd (e7 i j) n:=by unfold e7;split;exact hj;exact hi
theorem Ib {a x:Int}{p:Int×Int}(ha:dB a)(hx:cj a x)(hp:gm a p):bd (e7 (hW x p) (a*p.2 - hW x p)) 302:=
 EM ((wG ha hx hp).mono (by decide)) (((ha.bd.mul hp.sm.b).mono (by decide)).sub (wG ha hx hp))
theorem Ic {a x:Int}{p:Int×Int}(ha:dB a)(hx:cj a x)(hp:gm a p):Fb (me a x p):=by
 have h:=Di ha hx hp
 refine Ay ?_ hp.b ((Ib ha hx hp).mono (by decide)) (hp.sm.b.mono (by decide))
 unfold e7
 split <;> omega
theorem EK (i j:Int):rQ [.int i,.int j]=some (.int (e7 i j)):=rfl
theorem A8 (x:Int)(p:Int×Int):qG [.int (x*p.2 - p.1)]=some (.int (hW x p)):=rfl
theorem Kp (a x:Int)(p:Int×Int)(ha:dB a)(hx:cj a x)(hp:gm a p):jW [.int a,.int x,encP p]=some (encP (me a x p)):=by
 rw[jW]
 walk_at "ev"
 simp only[pJ,encP]
 walk_at "ev"
 simp only[di ((cj.bd ha hx).big (by decide)) (hp.sm.b.big (by decide)),di (ha.bd.big (by decide)) (hp.sm.b.big (by decide))]
 walk_at "ev"
 rw[A8]
 walk_at "ev"
 simp only[di (ha.bd.big (by decide)) (hp.sm.b.big (by decide))]
 walk_at "ev"
 rw[EK]
 walk_at "ev"
 rw[rf _ _ hp.b (hp.sm.b.mono (by decide))]
 rfl
theorem lD (a:Int)(xs:List Int)(ha:1≤a)(h:∀ x∈xs,cj a x):gN [.int a,.list (xs.map .int)]=some .none:=by
 have go:=n5 (S:=ey 2 (bM (aO 2) (bM (aO 3) dE))) (F:=qg)
  (fun _ ρ=>∃ b c d,ρ=[some (.int a),b,c,d]) (dg (xs.map .int)) 0 [some (.int a),some (.list (xs.map .int)),none,none] ⟨_,_,_,rfl⟩ ?_
 ·obtain⟨ρ',e,_⟩:=go
  have hlt:decide (a<1)=false:=decide_eq_false (by omega)
  rw[gN]
  walk_at "ev"
  simp only[ue]
  walk_at "ev"
  rw[hlt]
  walk_at "ev"
  rw[e]
  walk_at "ev"
 ·rintro i d ρ hd ⟨b,c,d2,rfl⟩
  obtain⟨e,he,rfl⟩:=qU hd
  rw[List.getElem?_map] at he
  cases q:xs[i]? with
  | none=>rw[q] at he;cases he
  | some x=>
   rw[q] at he
   have he':PyData.int x=e:=Option.some.inj he
   subst he'
   have hx:=h x (List.mem_of_getElem? q)
   have h1:decide (x<0)=false:=decide_eq_false (by have:=hx.l;omega)
   have h2:decide (a≤x)=false:=decide_eq_false (by have:=hx.u;omega)
   refine⟨[some (.int a),b,some (.int (i:Nat)),some (.int x)],[some (.int a),b,some (.int (i:Nat)),some (.int x)],rfl,?_,_,_,_,rfl⟩
   simp only[qg]
   walk_at "ev"
   simp only[h1,h2]
   walk_at "ev"
theorem B2 (a:Int)(ps:List (Int×Int))(ha:dB a)(h:∀ p∈ps,gm a p):mK [.int a,aX ps]=some .none:=by
 have go:=n5 (S:=ey 2 (bM (aO 2) (bM (aO 3) dE))) (F:=qh)
  (fun _ ρ=>∃ b c d,ρ=[some (.int a),b,c,d]) (dg (ps.map encP)) 0 [some (.int a),some (aX ps),none,none] ⟨_,_,_,rfl⟩ ?_
 ·obtain⟨ρ',e,_⟩:=go
  rw[mK]
  walk_at "ev"
  simp only[uf,aX] at e ⊢
  walk_at "ev"
  rw[e]
  walk_at "ev"
 ·rintro i d ρ hd ⟨b,c,d2,rfl⟩
  obtain⟨e,he,rfl⟩:=qU hd
  rw[List.getElem?_map] at he
  cases q:ps[i]? with
  | none=>rw[q] at he;cases he
  | some p=>
   rw[q] at he
   have he':encP p=e:=Option.some.inj he
   subst he'
   have hp:=h p (List.mem_of_getElem? q)
   have h1:decide (p.1<0)=false:=decide_eq_false (by have:=hp.l;omega)
   have h2:decide (a*p.2≤p.1)=false:=decide_eq_false (by have:=hp.u;omega)
   refine⟨[some (.int a),b,some (.int (i:Nat)),some (encP p)],[some (.int a),b,some (.int (i:Nat)),some (encP p)],rfl,?_,_,_,_,rfl⟩
   simp only[qh,encP]
   walk_at "ev"
   simp only[di (ha.bd.big (by decide)) (hp.sm.b.big (by decide))]
   walk_at "ev"
   simp only[h1,h2]
   walk_at "ev"
theorem Bh (a x:Int)(p:Int×Int)(ha:dB a)(hx:cj a x)(hp:gm a p):d_ FT (clo "ring_reach@0" [.int a]) [.int x,encP p]=some (encP (me a x p)):=by
 rw[vd]
 show mH [.int x,encP p,.int a]=_
 rw[mH,kD]
 walk_at "ev"
 simp only[pT]
 walk_at "ev"
 exact Kp a x p ha hx hp
theorem HZ (a:Int)(xs:List Int)(ps:List (Int×Int))(ha:dB a)(hx:∀ x∈xs,cj a x)(hp:∀ p∈ps,gm a p)(hl:xs.length≤1000)(hl2:ps.length≤1000)(hn:xs=[]∨ps≠[]) :
  p6 [.int a,.list (xs.map .int),aX ps]=some (encP (l9 (me a) xs ps)):=by
 have h1:=lD a xs ha.l hx
 have h2:=vH (xs.map PyData.int) (ps.map encP) (by rcases hn with rfl | h;exact .inl rfl;exact .inr (by simpa using h))
 have h3:=B2 a ps ha hp
 have h4:=HP PyData.int encP (me a) (clo "ring_reach@0" [.int a]) (cj a) (gm a) (fun x p hx hp=>⟨Bh a x p ha hx hp,Ic ha hx hp⟩) xs ps hx hp hl hl2 hn
 have hc:iK [0] [some (.int a),some (.list (xs.map .int)),some (aX ps)]=some [.int a]:=rfl
 rw[p6]
 walk_at "ev"
 simp only[ui]
 walk_at "ev"
 rw[h1]
 walk_at "ev"
 simp only[aX] at h2 h3 h4 hc ⊢
 rw[h2]
 walk_at "ev"
 rw[h3]
 walk_at "ev"
 rw[hc]
 walk_at "ev"
 rw[h4,nZ (show nf (encP _)=true from rfl)]
 walk_at "ev"
theorem HY (ns:List Int)(at0:Int)(most head:Option PyData)(a:Int)(ha0:0≤at0)(ha:dB a)(i:Nat)(xs:List Int)(hl:xs.length<900)(hx:∀ x∈xs,cj a x)(c7 c8:Option PyData) :
  ∃ x c7' c8',cj a x∧mS [some (.list (ns.map .int)),some (.int at0),most,head,some (.int a),some (.list (xs.map .int)),some (.int (i:Nat)),c7,c8]=some (.nx [some (.list (ns.map .int)),some (.int at0),most,head,some (.int a),some (.list ((xs++[x]).map .int)),some (.int (i:Nat)),c7',c8']):=by
 obtain⟨m,hm,em⟩:=rS (ns.getD (at0+1+(i:Nat)).toNat 0) 7 (by unfold bd;decide)
 have hr:cj a (m % a):=⟨Int.emod_nonneg _ (by have:=ha.l;omega),Int.emod_lt_of_pos _ (by have:=ha.l;omega)⟩
 have bg:fX (10 ^ 25)=true:=(show bd (10 ^ 25) 200 by unfold bd;decide).big (by decide)
 have fin:∀ (x:Int) (u v:Option PyData),iJ 5 [some (.list (ns.map .int)),some (.int at0),most,head,some (.int a),some (.list (xs.map .int)),some (.int (i:Nat)),u,v] (.int x)=some (.nx [some (.list (ns.map .int)),some (.int at0),most,head,some (.int a),some (.list ((xs++[x]).map .int)),some (.int (i:Nat)),u,v]):=fun x u v=>by
  rw[qI (ds:=xs.map .int) rfl (by rw[List.length_map];omega)]
  walk_at "ev"
  simp
 simp only[mS]
 walk_at "ev"
 rw[qO ns _ (by omega)]
 walk_at "ev"
 rw[em]
 walk_at "ev"
 rw[b8 (b:=a) (by have:=ha.l;omega)]
 walk_at "ev"
 rw[G5]
 walk_at "ev"
 rw[cY (a:=m) (b:=10 ^ 25) (by decide) bg]
 walk_at "ev"
 rw[b8 (b:=5) (by decide)]
 walk_at "ev"
 cases (m / 10 ^ 25 % 5==1) with
 | false=>
  walk_at "ev"
  exact⟨m % a,_,_,hr,fin _ _ _⟩
 | true=>
  walk_at "ev"
  cases xs with
  | nil=>
   have hz:decide ((0:Int)<((List.map PyData.int []).length:Nat))=false:=rfl
   rw[hz]
   walk_at "ev"
   exact⟨m % a,_,_,hr,fin _ _ _⟩
  | cons x r=>
   have hz:decide ((0:Int)<(((x::r).map PyData.int).length:Nat))=true:=decide_eq_true (by simp)
   rw[hz]
   walk_at "ev"
   rw[show ay (.list (PyData.int x::r.map PyData.int)) (.int 0)=some (.int x) from by (show atI _ 0=_;rw[qJ]),nZ (xN x)]
   walk_at "ev"
   exact⟨x,_,_,hx x List.mem_cons_self,fin _ _ _⟩
theorem HX (ns:List Int)(at0 most:Int)(ha:0≤at0)(hb:bd at0 60)(h1:0≤most)(h2:most<800):∃ (a:Int) (xs:List Int),dB a∧(xs.length:Int)≤most∧(∀ x∈xs,cj a x)∧iA [.list (ns.map .int),.int at0,.int most]=some (.list [.int a,.list (xs.map .int)]):=by
 obtain⟨head,hh,eh⟩:=rS (ns.getD at0.toNat 0) at0 hb
 have em:∀ n:Int,0<n->0≤head / 10 % n∧head / 10 % n<n:=fun n hn=>⟨Int.emod_nonneg _ (by omega),Int.emod_lt_of_pos _ hn⟩
 have q1:=em 12 (by decide)
 have q2:=em 40 (by decide)
 have q3:=em 1000 (by decide)
 have q4:=em (10 ^ 20) (by decide)
 obtain⟨a,har,ea⟩:∃ a:Int,dB a∧ay (.list [.int (1+head / 10 % 12),.int (1+head / 10 % 40),.int (1+head / 10 % 1000),.int (1+head / 10 % 10 ^ 20)]) (.int (head % 4))=some (.int a):=by
  obtain⟨x,hx,ex⟩:=Ec (.int (1+head / 10 % 12)) (.int (1+head / 10 % 40)) (.int (1+head / 10 % 1000)) (.int (1+head / 10 % 10 ^ 20)) (j:=head % 4) (Int.emod_nonneg _ (by decide)) (Int.emod_lt_of_pos _ (by decide))
  rcases hx with rfl | rfl | rfl | rfl
  ·exact⟨_,⟨by omega,by omega⟩,ex⟩
  ·exact⟨_,⟨by omega,by omega⟩,ex⟩
  ·exact⟨_,⟨by omega,by omega⟩,ex⟩
  ·exact⟨_,⟨by omega,by omega⟩,ex⟩
 have hm0:0≤head / 10 ^ 21 % (most+1):=Int.emod_nonneg _ (by omega)
 have hm1:head / 10 ^ 21 % (most+1)<most+1:=Int.emod_lt_of_pos _ (by omega)
 obtain⟨ρ',e,xs,c6,c7,c8,rfl,hl,hp⟩:=n5 (S:=aO 6) (F:=mS)
  (fun i ρ=>∃ (xs:List Int) (c6 c7 c8:Option PyData),ρ=[some (.list (ns.map .int)),some (.int at0),some (.int most),some (.int head),some (.int a),some (.list (xs.map .int)),c6,c7,c8]∧xs.length=i∧∀ x∈xs,cj a x)
  (dR 0 (head / 10 ^ 21 % (most+1)).toNat) 0 [some (.list (ns.map .int)),some (.int at0),some (.int most),some (.int head),some (.int a),some (.list []),none,none,none] ⟨[],none,none,none,rfl,rfl,fun p hp=>by cases hp⟩
  (by
   rintro i d ρ hd ⟨xs,c6,c7,c8,rfl,hl,hp⟩
   obtain⟨hi,rfl⟩:=Ig hd
   obtain⟨x,c7',c8',hpb,es⟩:=HY ns at0 (some (.int most)) (some (.int head)) a ha har i xs (by omega) hp c7 c8
   exact⟨_,_,rfl,es,xs++[x],_,_,_,rfl,by simp[hl],fun q hq=>by
    rcases List.mem_append.mp hq with h | h
    ·exact hp q h
    ·have:q=x:=by simpa using h
     rw[this];exact hpb⟩)
 have bg:∀ n:Int,0<n->n≤10 ^ 32->fX n=true:=fun n h1 h2=>(show bd n 200 by
  have:bd (10 ^ 32) 200:=by unfold bd;decide
  exact this.of_le (by omega) h2).big (by decide)
 refine⟨a,xs,har,by rw[hl,Ih];omega,hp,?_⟩
 rw[iA]
 walk_at "ev"
 simp only[ph]
 walk_at "ev"
 rw[qO ns at0 ha]
 walk_at "ev"
 rw[eh]
 walk_at "ev"
 walk_at "pw"
 walk_at "ev"
 rw[cY (a:=head) (b:=10) (by decide) (bg 10 (by decide) (by decide))]
 walk_at "ev"
 rw[b8 (b:=12) (by decide),b8 (b:=40) (by decide),b8 (b:=1000) (by decide),b8 (b:=10 ^ 20) (by decide),b8 (b:=4) (by decide)]
 walk_at "ev"
 rw[ea,nZ (xN a)]
 walk_at "ev"
 walk_at "pw"
 walk_at "ev"
 rw[cY (a:=head) (b:=10 ^ 21) (by decide) (bg _ (by decide) (by decide))]
 walk_at "ev"
 rw[b8 (b:=most+1) (by omega)]
 walk_at "ev"
 rw[zj hm0 (by omega)]
 walk_at "ev"
 rw[e]
 walk_at "ev"
structure KP (r:Int×Int):Prop where
 a:bd r.1 500
 b:bd r.2 500
structure Pl (p:Int×Int):Prop where
 l1:-(10 ^ 20)≤p.1
 u1:p.1≤10 ^ 20
 l2:-(10 ^ 20)≤p.2
 u2:p.2≤10 ^ 20
structure uJ (p:Int×Int):Prop where
 sm:Sp p
 b:0<p.2
structure PP (q:(Int×Int)×(Int×Int)):Prop where
 a:uJ q.1
 b:uJ q.2
theorem Pl.b1 {p:Int×Int}(h:Pl p):bd p.1 100:=cL (by have:=h.l1;omega) (by have:=h.u1;omega)
theorem Pl.b2 {p:Int×Int}(h:Pl p):bd p.2 100:=cL (by have:=h.l2;omega) (by have:=h.u2;omega)
def jz (i j:Int):Int:=if j>i then j else i
def jJ (p q:Int×Int):Int:=jz (absI (p.1 - q.1)) (absI (p.2 - q.2))
def ig (c:(Int×Int)×(Int×Int))(o:Int×Int):Int:=e7 (jJ o c.1) (jJ o c.2)
structure dY (fk:List (Int×Int))(h:Int×Int->Int)(m:Int):Prop where
 mem:∃ o∈fk,h o=m
 le:∀ o∈fk,h o≤m
theorem dY.uniq {fk:List (Int×Int)}{h:Int×Int->Int}{m n:Int}(a:dY fk h m)(b:dY fk h n):m=n:=by
 obtain⟨o,h1,h2⟩:=a.mem
 obtain⟨p,h3,h4⟩:=b.mem
 have:=b.le o h1
 have:=a.le p h3
 omega
theorem dY.map {fk:List (Int×Int)}{h h':Int×Int->Int}{m m':Int}(a:dY fk h m)(φ:Int×Int->Int×Int)(g:Int->Int)(hg:∀ o,h' (φ o)=g (h o))(mono:∀ x y:Int,x≤y->g x≤g y)(hm:g m=m'):dY (fk.map φ) h' m':=by
 obtain⟨o,h1,h2⟩:=a.mem
 refine⟨⟨φ o,List.mem_map_of_mem h1,by rw[hg,h2,hm]⟩,fun q hq=>?_⟩
 obtain⟨p,hp,rfl⟩:=List.mem_map.mp hq
 rw[hg,← hm]
 exact mono _ _ (a.le p hp)
theorem dY.rev {fk:List (Int×Int)}{h:Int×Int->Int}{m:Int}(a:dY fk h m):dY fk.reverse h m:=by
 obtain⟨o,h1,h2⟩:=a.mem
 exact⟨⟨o,List.mem_reverse.mpr h1,h2⟩,fun q hq=>a.le q (List.mem_reverse.mp hq)⟩
structure iF (fk:List (Int×Int))(a b L R B T m n:Int):Prop where
 hl:dY fk (fun p=>-p.1) (-L)
 hr:dY fk (fun p=>p.1) R
 hb:dY fk (fun p=>-p.2) (-B)
 ht:dY fk (fun p=>p.2) T
 hm:dY fk (ig ((L,B),(R,T))) m
 hn:dY fk (ig ((L,T),(R,B))) n
 ea:a=jz (R - L) (T - B)
 eb:b=e7 m n
theorem l5 (i j:Int):jz i j=jz j i:=by unfold jz;split <;> split <;> omega
theorem xZ (i j:Int):e7 i j=e7 j i:=by unfold e7;split <;> split <;> omega
theorem uY {i:Int}(h:0≤i):absI i=i:=by unfold absI;split <;> omega
theorem A9 (i j:Int):absI (i - j)=absI (j - i):=by unfold absI;split <;> split <;> omega
theorem iF.uniq {fk:List (Int×Int)}{a b L R B T m n a' b' L' R' B' T' m' n':Int}(x:iF fk a b L R B T m n)(y:iF fk a' b' L' R' B' T' m' n'):a=a'∧b=b':=by
 have e1:=x.hl.uniq y.hl
 have e2:=x.hr.uniq y.hr
 have e3:=x.hb.uniq y.hb
 have e4:=x.ht.uniq y.ht
 obtain rfl:L=L':=by omega
 obtain rfl:B=B':=by omega
 subst e2
 subst e4
 have e5:=x.hm.uniq y.hm
 have e6:=x.hn.uniq y.hn
 subst e5
 subst e6
 exact⟨x.ea.trans y.ea.symm,x.eb.trans y.eb.symm⟩
theorem iF.turn {fk:List (Int×Int)}{a b L R B T m n:Int}(x:iF fk a b L R B T m n):iF (fk.reverse.map fun p=>(p.2,0 - p.1)) a b B T (-R) (-L) n m:=by
 have ng:∀ i j:Int,absI (0 - i - -j)=absI (i - j):=fun i j=>by rw[show 0 - i - -j=j - i by omega,A9]
 refine⟨x.hb.rev.map _ id (fun o=>rfl) (fun i j h=>h) rfl,x.ht.rev.map _ id (fun o=>rfl) (fun i j h=>h) rfl,x.hr.rev.map _ id (fun o=>?_) (fun i j h=>h) ?_,x.hl.rev.map _ id (fun o=>?_) (fun i j h=>h) ?_,x.hn.rev.map _ id (fun o=>?_) (fun i j h=>h) rfl,x.hm.rev.map _ id (fun o=>?_) (fun i j h=>h) rfl,?_,?_⟩
 all_goals try (first | omega | (dsimp only [id];omega) | rfl)
 ·show ig _ _=ig _ _
  simp only[ig,jJ,ng]
  rw[xZ,l5 (absI (o.2 - T)),l5 (absI (o.2 - B))]
 ·show ig _ _=ig _ _
  simp only[ig,jJ,ng]
  rw[l5 (absI (o.2 - T)),l5 (absI (o.2 - B))]
 ·rw[x.ea,l5,show -L - -R=R - L by omega]
 ·rw[x.eb,xZ]
theorem iF.le {fk:List (Int×Int)}{a b L R B T m n:Int}(x:iF fk a b L R B T m n):b≤a:=by
 obtain⟨o,h1,h2⟩:=x.hm.mem
 have g1:=x.hl.le o h1
 have g2:=x.hr.le o h1
 have g3:=x.hb.le o h1
 have g4:=x.ht.le o h1
 have e1:b≤m:=by rw[x.eb];unfold e7;split <;> omega
 have e2:m≤jJ o (L,B):=by rw[← h2];unfold ig e7;dsimp only;split <;> omega
 have e3:jJ o (L,B)≤jz (R - L) (T - B):=by
  unfold jJ
  dsimp only at g1 g2 g3 g4 ⊢
  rw[uY (by omega),uY (by omega)]
  unfold jz
  split <;> split <;> omega
 have:=x.ea
 omega
def stand (a n p:Int):Int:=if n % a≤p then n / a*a+p else n / a*a+a+p
def eZ (a:Int)(ps:List Int)(n:Int):Int:=match ps.find? (fun p=>decide (n≤n / a*a+p)) with
 | some p=>n / a*a+p
 | none=>n / a*a+a+ps.getD 0 0
def lQ (f:Int->Int):Nat->Int->List Int
 | 0,_=>[]
 | n+1,x=>x::lQ f n (f x)
def tJ (P:Prop)(x:Option PyData):Prop:=(P∧x=some (.bool true))∨(¬ P∧x=some (.bool false))
theorem wC (A P:Option PyData)(n r:Int):∀ (xs:List Int) (c:Option PyData),∃ c',cA (aO 4) lb (xs.map PyData.int) [A,P,some (.int n),some (.int r),c]=(match xs.find? (fun p=>decide (n≤r+p)) with
  | some p=>some (.rt (.int (r+p)))
  | none=>some (.nx [A,P,some (.int n),some (.int r),c']))
 | [],c=>⟨c,rfl⟩
 | x::t,c=>by
  obtain⟨c',ih⟩:=wC A P n r t (some (.int x))
  have st:lb [A,P,some (.int n),some (.int r),some (.int x)]=if n≤r+x then some (.rt (.int (r+x))) else some (.nx [A,P,some (.int n),some (.int r),some (.int x)]):=by
   simp only[lb]
   walk_at "ev"
   rw[rA]
  rw[List.map_cons,List.find?_cons]
  by_cases h:n≤r+x
  ·refine⟨c,?_⟩
   rw[cA]
   show (lb [A,P,some (.int n),some (.int r),some (.int x)]).bind _=_
   rw[st,if_pos h,decide_eq_true h]
   rfl
  ·refine⟨c',?_⟩
   rw[q0 rfl (st.trans (if_neg h)),ih,decide_eq_false h]
theorem wB {a n:Int}{ps:List Int}(ha:0<a)(hb:bd a 100)(hn:bd (n / a) 100)(hp:ps≠[]):iB [.int a,.list (ps.map .int),.int n]=some (.int (eZ a ps n)):=by
 rw[iB]
 walk_at "ev"
 simp only[px]
 walk_at "ev"
 rw[cY ha (hb.big (by decide))]
 walk_at "ev"
 rw[di (hn.big (by decide)) (hb.big (by decide))]
 walk_at "ev"
 obtain⟨c',e⟩:=wC (some (.int a)) (some (.list (ps.map .int))) n (n / a*a) ps none
 rw[e]
 unfold eZ
 cases hf:ps.find? (fun p=>decide (n≤n / a*a+p)) with
 | some p=>rfl
 | none=>
  dsimp only
  walk_at "ev"
  cases ps with
  | nil=>exact absurd rfl hp
  | cons y r=>
   rw[List.map_cons,show ay (.list (.int y::r.map PyData.int)) (.int 0)=some (.int y) from qJ _ _]
   walk_at "ev"
   rfl
theorem Ee (xs:List Int)(x:Int):ay (.list ((xs++[x]).map PyData.int)) (.int (-1))=some (.int x):=by
 show atI ((xs++[x]).map PyData.int) (-1)=_
 have hl:((xs++[x]).map PyData.int).length=xs.length+1:=by simp
 have hx:dD ((xs++[x]).map PyData.int).length (-1)=some xs.length:=by
  unfold dD
  rw[hl,if_neg (by decide),if_pos (by omega)]
  congr 1
  omega
 unfold atI
 rw[hx,Option.bind_some]
 simp
theorem wD {a n:Int}{ps:List Int}(ha:0<a)(hp:∀ p∈ps,0≤p∧p<a)(hn:ps≠[]):n≤eZ a ps n∧eZ a ps n≤n+a:=by
 have e1:=Int.emod_add_mul_ediv n a
 have r0:=Int.emod_nonneg n (show a≠0 by omega)
 have r1:=Int.emod_lt_of_pos n ha
 have hc:=Int.mul_comm a (n / a)
 unfold eZ
 cases hf:ps.find? (fun p=>decide (n≤n / a*a+p)) with
 | some p=>
  have h1:n≤n / a*a+p:=by simpa using List.find?_some hf
  have h2:=hp p (List.mem_of_find?_eq_some hf)
  dsimp only
  omega
 | none=>
  cases ps with
  | nil=>exact absurd rfl hn
  | cons y r=>
   have:=List.find?_eq_none.mp hf y List.mem_cons_self
   have h1:¬ n≤n / a*a+y:=fun z=>by simp[z] at this
   have h2:=hp y List.mem_cons_self
   show n≤n / a*a+a+y∧n / a*a+a+y≤n+a
   omega
theorem vX {a n:Int}(ha:0<a)(h1:-(10 ^ 24)≤n)(h2:n≤10 ^ 24):bd (n / a) 100:=by
 have:=rT n ha
 have q:bd n 100:=cL h1 h2
 exact Nat.lt_of_le_of_lt this q
def ip (a:Int)(ps:List Int)(l x:Int):Int:=eZ a ps (x+l)
theorem zD {a l:Int}{ps:List Int}(F:Option PyData)(ha:0<a)(hb:bd a 100)(ha2:a≤10 ^ 20)(hp:∀ p∈ps,0≤p∧p<a)(hn:ps≠[])(hl0:0≤l)(hl1:l≤10 ^ 21):∀ (m fuel:Nat) (xs:List Int) (x count:Int),count=xs.length+1+(m:Nat)->m<fuel->count≤60->0≤x->x+(m:Nat)*10 ^ 22≤10 ^ 23 ->
  cQ j9 mZ fuel [some (.int a),some (.list (ps.map .int)),some (.int l),F,some (.int count),some (.list ((xs++[x]).map .int))]=some (.nx [some (.int a),some (.list (ps.map .int)),some (.int l),F,some (.int count),some (.list ((xs++lQ (ip a ps l) (m+1) x).map .int))])
 | 0,0,xs,x,count,h1,h2,h3,h4,h5=>absurd h2 (Nat.lt_irrefl _)
 | m+1,0,xs,x,count,h1,h2,h3,h4,h5=>absurd h2 (Nat.not_lt_zero _)
 | 0,fuel+1,xs,x,count,h1,h2,h3,h4,h5=>by
  have hlen:(((xs++[x]).map PyData.int).length:Int)=xs.length+1:=by simp
  have e1:j9 [some (.int a),some (.list (ps.map .int)),some (.int l),F,some (.int count),some (.list ((xs++[x]).map .int))]=some false:=by
   simp only[j9]
   walk_at "ev"
   rw[hlen,decide_eq_false (by omega)]
  rw[cQ,e1]
  rfl
 | m+1,fuel+1,xs,x,count,h1,h2,h3,h4,h5=>by
  have hlen:(((xs++[x]).map PyData.int).length:Int)=xs.length+1:=by simp
  have e1:j9 [some (.int a),some (.list (ps.map .int)),some (.int l),F,some (.int count),some (.list ((xs++[x]).map .int))]=some true:=by
   simp only[j9]
   walk_at "ev"
   rw[hlen,decide_eq_true (by omega)]
  have hm:((m+1:Nat):Int)*10 ^ 22=(m:Nat)*10 ^ 22+10 ^ 22:=by push_cast;rw[Int.add_mul];omega
  have hm0:(0:Int)≤(m:Nat)*10 ^ 22:=by omega
  have hi:=wD (n:=x+l) ha hp hn
  have e2:mZ [some (.int a),some (.list (ps.map .int)),some (.int l),F,some (.int count),some (.list ((xs++[x]).map .int))]=some (.nx [some (.int a),some (.list (ps.map .int)),some (.int l),F,some (.int count),some (.list (((xs++[x])++[ip a ps l x]).map .int))]):=by
   simp only[mZ]
   walk_at "ev"
   rw[Ee]
   walk_at "ev"
   rw[wB ha hb (vX ha (by omega) (by omega)) hn]
   walk_at "ev"
   rw[qI (ds:=(xs++[x]).map .int) rfl (by simp;omega)]
   walk_at "ev"
   simp[ip]
  have ih:=zD F ha hb ha2 hp hn hl0 hl1 m fuel (xs++[x]) (ip a ps l x) count (by simp;omega) (by omega) h3 (by unfold ip;omega) (by unfold ip;omega)
  rw[cQ,e1,Option.bind_some,if_pos rfl,e2,Option.bind_some]
  dsimp only
  rw[ih,List.append_assoc]
  rfl
theorem Jo {a l x count:Int}{ps:List Int}(ha:0<a)(hb:bd a 100)(ha2:a≤10 ^ 20)(hp:∀ p∈ps,0≤p∧p<a)(hn:ps≠[])(hl0:0≤l)(hl1:l≤10 ^ 21)(c1:1≤count)(c2:count≤9)(h0:0≤x)(h1:x≤10 ^ 20) :
  iD [.int a,.list (ps.map .int),.int l,.int x,.int count]=some (.list ((lQ (ip a ps l) count.toNat x).map .int)):=by
 rw[iD]
 walk_at "ev"
 simp only[pH]
 walk_at "ev"
 have e:=zD (F:=some (.int x)) ha hb ha2 hp hn hl0 hl1 (count.toNat - 1) 64 [] x count (by simp;omega) (by omega) (by omega) h0 (by omega)
 have e':[PyData.int x]=(([]:List Int)++[x]).map .int:=rfl
 rw[e',e]
 walk_at "ev"
 rw[show count.toNat - 1+1=count.toNat by omega]
theorem wa:∀ xs ys:List Int,PyData.eqvAll (xs.map PyData.int) (ys.map PyData.int)=decide (xs=ys)
 | [],[]=>rfl
 | [],y::r=>by simp[PyData.eqvAll]
 | x::r,[]=>by simp[PyData.eqvAll]
 | x::r,y::s=>by
  rw[List.map_cons,List.map_cons,PyData.eqvAll,wa r s]
  simp[PyData.eqv]
  by_cases h:x=y <;> by_cases h2:r=s <;> simp[h,h2]
theorem xF:∀ xs:List Int,PyData.canLayAll0 (xs.map PyData.int)=true∧PyData.depthAll (xs.map PyData.int)≤1
 | []=>⟨rfl,by simp[PyData.depthAll]⟩
 | x::r=>by
  obtain⟨h1,h2⟩:=xF r
  refine⟨by rw[List.map_cons,PyData.canLayAll0,h1];rfl,?_⟩
  rw[List.map_cons,PyData.depthAll]
  simp only[PyData.depth]
  omega
theorem shaped_ints (xs:List Int):SeqAt.shaped (.list (xs.map PyData.int))=true:=by
 obtain⟨h1,h2⟩:=xF xs
 simp[SeqAt.shaped,PyData.canLay0,PyData.depth,h1]
 omega
theorem CC (xs ys:List Int):aF (.list (xs.map .int)) (.list (ys.map .int))=some (.bool (decide (xs=ys))):=by
 simp only[aF,shaped_ints,Bool.and_self,if_true,PyData.eqv,wa]
def v9 (r:List Int):PyData:=.list (r.map .int)
def Cz (rs:List (List Int)):PyData:=.list (rs.map v9)
structure Rg (a l:Int)(ps:List Int):Prop where
 a0:0<a
 ab:bd a 100
 a2:a≤10 ^ 20
 hp:∀ p∈ps,0≤p∧p<a
 hs:ps.Pairwise (·≤·)
 l0:0≤l
 l1:l≤10 ^ 21
theorem getD_mem {α:Type}{xs:List α}{i:Nat}{x0:α}(h:i<xs.length):xs.getD i x0∈xs:=by
 rw[List.getD_eq_getElem?_getD,List.getElem?_eq_getElem h]
 exact List.getElem_mem h
theorem Bv {a b:Int}(h:a=b):(a==b)=true:=by rw[h];exact beq_self_eq_true _
theorem Bu {a b:Int}(h:a≠b):(a==b)=false:=beq_false_of_ne h
def b9 (fk:List Int):List Int:=eM (uniq fk)
theorem mj {fk:List Int}(h:fk.length<64):eR (.list (fk.map .int))=some ((b9 fk).map .int):=by
 unfold eR
 dsimp only
 rw[rm,Option.bind_some,if_pos (decide_eq_true h)]
 rfl
theorem qP {row:List Int}{k:Nat}(h:k<row.length):ay (.list (row.map .int)) (.int (k:Nat))=some (.int (row.getD k 0)):=by
 rw[vE (by omega) (by omega)]
 rfl
structure KQ (row:List Int):Prop where
 l:1≤row.length
 u:row.length≤9
 b:∀ x∈row,-(10 ^ 22)≤x∧x≤10 ^ 22
theorem DQ (L:List Int)(k x:Int):x∈fA L k↔x∈L∨x=k:=by
 unfold fA
 split
 ·rename_i h
  have:k∈L:=by simpa using h
  exact⟨.inl,fun z=>z.elim id fun z=>z▸this⟩
 ·simp
theorem xX (val:Nat->Int)(x:Int):∀ i,x∈dQ val i↔∃ j,j<i∧x=val j
 | 0=>by simp[dQ]
 | i+1=>by
  rw[dQ,DQ,xX val x i]
  constructor
  ·rintro (⟨j,h1,h2⟩ | h)
   ·exact⟨j,by omega,h2⟩
   ·exact⟨i,by omega,h⟩
  ·rintro⟨j,h1,h2⟩
   by_cases h:j=i
   ·exact .inr (h▸h2)
   ·exact .inl ⟨j,by omega,h2⟩
theorem sf {fk:List Int}{x:Int}:x∈b9 fk↔x∈fk:=by
 unfold b9
 rw[(iW _).mem_iff]
 unfold uniq
 rw[xX]
 constructor
 ·rintro⟨j,h1,rfl⟩
  exact getD_mem h1
 ·intro h
  obtain⟨j,h1,h2⟩:=List.getElem_of_mem h
  exact⟨j,h1,by rw[List.getD_eq_getElem?_getD,List.getElem?_eq_getElem h1];exact h2.symm⟩
theorem yO {fk:List Int}:(b9 fk).length≤fk.length:=by
 unfold b9
 rw[(iW _).length_eq]
 exact oq _ _
theorem yP {fk:List Int}:b9 fk=[]↔fk=[]:=by
 constructor
 ·intro h
  cases fk with
  | nil=>rfl
  | cons x r=>
   have:x∈b9 (x::r):=sf.mpr List.mem_cons_self
   rw[h] at this
   cases this
 ·rintro rfl
  unfold b9 uniq
  exact List.mergeSort_nil
theorem lC {ds es:List PyData}(h:(ds++es).length≤1000):bZ (some (.list ds)) (some (.list es))=some (ds++es):=by
 unfold bZ
 rw[Option.bind_some,oj,Option.bind_some,Option.bind_some,oj,Option.bind_some,if_pos (decide_eq_true h)]
theorem xO:∀ xs:List Int,lf.go (xs.map PyData.int)=true
 | []=>rfl
 | x::r=>by rw[List.map_cons,lf.go,xO r];rfl
def St (a:Int)(ps:List Int)(y:Int):Prop:=y % a∈ps
theorem v7 {a r q:Int}(h0:0≤r)(h1:r<a):(r+q*a) % a=r:=by
 rw[Int.add_mul_emod_self_right,Int.emod_eq_of_lt h0 h1]
structure Nx (a:Int)(ps:List Int)(f:Int->Int):Prop where
 st:∀ n,St a ps (f n)
 le:∀ n,n≤f n
 mn:∀ n y,St a ps y->n≤y->f n≤y
theorem St.add {a y:Int}{ps:List Int}(h:St a ps y)(k:Int):St a ps (y+k*a):=by
 unfold St at h ⊢
 rwa [Int.add_mul_emod_self_right]
theorem St.one {a y:Int}{ps:List Int}(h:St a ps y):St a ps (y+a):=by
 have:=h.add 1
 rwa [Int.one_mul] at this
theorem CO {α:Type}{P:α->Bool}:∀ {xs:List α} {x:α},xs.find? P=some x->x∈xs∧P x=true:=fun h=>⟨List.mem_of_find?_eq_some h,List.find?_some h⟩
theorem zR {P:Int->Bool}:∀ {ps:List Int} {p:Int},ps.Pairwise (·<·)->ps.find? P=some p->∀ x∈ps,P x=true->p≤x
 | [],_,_,h=>by cases h
 | q::r,p,hs,h=>by
  intro x hx hP
  rw[List.find?_cons] at h
  split at h
  ·cases h
   rcases List.mem_cons.mp hx with rfl | hx
   ·exact Int.le_refl _
   ·exact Int.le_of_lt ((List.pairwise_cons.mp hs).1 x hx)
  ·rename_i hq
   rcases List.mem_cons.mp hx with rfl | hx
   ·rw[hP] at hq;cases hq
   ·exact zR (List.pairwise_cons.mp hs).2 h x hx hP
theorem C1 {a:Int}{ps:List Int}(ha:0<a)(hp:∀ p∈ps,0≤p∧p<a)(hs:ps.Pairwise (·<·))(hn:ps≠[]):Nx a ps (eZ a ps):=by
 have hd:∀ n:Int,n / a*a≤n∧n<n / a*a+a:=fun n=>by
  have h1:=Int.emod_add_mul_ediv n a
  have h2:=Int.emod_nonneg n (show a≠0 by omega)
  have h3:=Int.emod_lt_of_pos n ha
  rw[Int.mul_comm] at h1
  omega
 have key:∀ n,(∃ p∈ps,eZ a ps n=n / a*a+p∧n≤n / a*a+p∧∀ x∈ps,n≤n / a*a+x->p≤x)∨(∃ p∈ps,eZ a ps n=n / a*a+a+p∧(∀ x∈ps,p≤x)∧∀ x∈ps,n / a*a+x<n):=by
  intro n
  unfold eZ
  cases h:ps.find? (fun p=>decide (n≤n / a*a+p)) with
  | some p=>
   obtain⟨h1,h2⟩:=CO h
   exact .inl ⟨p,h1,rfl,of_decide_eq_true h2,fun x hx hP=>zR hs h x hx (decide_eq_true hP)⟩
  | none=>
   have h1:=List.find?_eq_none.mp h
   cases ps with
   | nil=>exact absurd rfl hn
   | cons q r=>
    refine .inr ⟨q,List.mem_cons_self,rfl,fun x hx=>?_,fun x hx=>?_⟩
    ·rcases List.mem_cons.mp hx with rfl | hx
     ·exact Int.le_refl _
     ·exact Int.le_of_lt ((List.pairwise_cons.mp hs).1 x hx)
    ·have:=h1 x hx
     simp only[decide_eq_true_eq] at this
     omega
 have self:∀ y,St a ps y->y=y / a*a+y % a∧y % a∈ps∧0≤y % a∧y % a<a:=fun y hy=>by
  have h1:=Int.emod_add_mul_ediv y a
  rw[Int.mul_comm] at h1
  exact⟨by omega,hy,hp _ hy⟩
 refine⟨fun n=>?_,fun n=>?_,fun n y hy hny=>?_⟩
 ·rcases key n with ⟨p,h1,h2,_⟩ | ⟨p,h1,h2,_⟩
  ·obtain⟨g1,g2⟩:=hp p h1
   unfold St
   rw[h2,Int.add_comm,v7 g1 g2]
   exact h1
  ·obtain⟨g1,g2⟩:=hp p h1
   unfold St
   rw[h2,show n / a*a+a+p=p+(n / a+1)*a by rw[Int.add_mul];omega,v7 g1 g2]
   exact h1
 ·rcases key n with ⟨p,h1,h2,h3,_⟩ | ⟨p,h1,h2,h3,h4⟩
  ·omega
  ·have:=hp p h1;have:=hd n;omega
 ·obtain⟨y1,y2,y3,y4⟩:=self y hy
  obtain⟨d1,d2⟩:=hd n
  rcases Int.lt_trichotomy (y / a) (n / a) with hq | hq | hq
  ·have:(y / a+1)*a≤n / a*a:=Int.mul_le_mul_of_nonneg_right (by omega) (by omega)
   rw[Int.add_mul] at this
   omega
  ·rw[hq] at y1
   rcases key n with ⟨p,h1,h2,h3,h4⟩ | ⟨p,h1,h2,h3,h4⟩
   ·have:=h4 _ y2 (by omega);omega
   ·have:=h4 _ y2;omega
  ·have hq2:(n / a+1)*a≤y / a*a:=Int.mul_le_mul_of_nonneg_right (by omega) (by omega)
   rw[Int.add_mul] at hq2
   rcases key n with ⟨p,h1,h2,h3,h4⟩ | ⟨p,h1,h2,h3,h4⟩
   ·have:=hp p h1;omega
   ·by_cases hq3:y / a=n / a+1
    ·rw[hq3,Int.add_mul] at y1
     have:=h3 _ y2;omega
    ·have hq4:(n / a+1+1)*a≤y / a*a:=Int.mul_le_mul_of_nonneg_right (by omega) (by omega)
     rw[Int.add_mul,Int.add_mul] at hq4
     have:=hp p h1;omega
def fY (g:Int->Int):Nat->Int->Int
 | 0,x=>x
 | n+1,x=>fY g n (g x)
theorem w_ (g:Int->Int)(m:Nat):∀ n x,fY g (n+m) x=fY g m (fY g n x)
 | 0,x=>by rw[Nat.zero_add];rfl
 | n+1,x=>by
  rw[show n+1+m=(n+m)+1 by omega]
  exact w_ g m n (g x)
def gr (f:Int->Int)(l:Int)(x:Int):Int:=f (x+l+1)
section
variable {a l l':Int}{ps:List Int}{f:Int->Int}
theorem Nx.mono (N:Nx a ps f){m n:Int}(h:m≤n):f m≤f n:=N.mn _ _ (N.st n) (Int.le_trans h (N.le n))
theorem ri (N:Nx a ps f)(x:Int):x+l+1≤gr f l x:=N.le _
theorem wL (N:Nx a ps f)(x:Int):St a ps (gr f l x):=N.st _
theorem xa (N:Nx a ps f)(hl:0≤l+1):∀ (n:Nat) (x:Int),x+n*(l+1)≤fY (gr f l) n x
 | 0,x=>by simp[fY]
 | n+1,x=>by
  have h1:=xa N hl n (gr f l x)
  have h2:=ri (l:=l) N x
  show _≤fY (gr f l) n (gr f l x)
  have h3:((n+1:Nat):Int)*(l+1)=n*(l+1)+(l+1):=by rw[Int.natCast_succ,Int.add_mul,Int.one_mul]
  omega
theorem D9 (N:Nx a ps f)(hl:0≤l)(n:Nat)(x:Int):x≤fY (gr f l) n x:=by
 have h1:=xa N (by omega:0≤l+1) n x
 have h2:0≤(n:Int)*(l+1):=Int.mul_nonneg (by omega) (by omega)
 omega
theorem D_ (N:Nx a ps f)(hl:0≤l){m n:Nat}(h:m≤n)(x:Int):fY (gr f l) m x≤fY (gr f l) n x:=by
 obtain⟨k,rfl⟩:=Nat.exists_eq_add_of_le h
 rw[w_]
 exact D9 N hl k _
def Gd (a:Int)(ps:List Int)(f:Int->Int)(m:Nat)(l:Int):Prop:=ps=[]∨∃ x∈ps,x+a≤fY (gr f l) m x
def fK (a:Int)(fk:List Int)(m:Nat)(l:Int):Prop:=∃ S:List Int,S.length≤m∧∀ x∈fk,∃ s∈S,(x - s) % a≤l
theorem ot {a j k:Int}(ha:0<a)(h:j<k):j*a+a≤k*a:=by
 have:=Int.mul_le_mul_of_nonneg_right (show j+1≤k by omega) (Int.le_of_lt ha)
 rwa [Int.add_mul,Int.one_mul] at this
theorem into {x y:Int}(ha:0<a):∃ k:Int,x≤y+k*a∧y+k*a<x+a:=by
 refine⟨-((y - x) / a),?_⟩
 have h1:=Int.emod_add_mul_ediv (y - x) a
 rw[Int.mul_comm] at h1
 have h2:=Int.emod_nonneg (y - x) (show a≠0 by omega)
 have h3:=Int.emod_lt_of_pos (y - x) ha
 rw[Int.neg_mul]
 omega
end
section
variable {a l l':Int}{ps:List Int}{f:Int->Int}
structure qi (a:Int)(fk:List Int)(m:Nat)(l:Int):Prop where
 nn:0≤l
 cov:fK a fk m l
 least:∀ l',0≤l'->fK a fk m l'->l≤l'
theorem qi.uniq {fk:List Int}{m:Nat}(x:qi a fk m l)(y:qi a fk m l'):l=l':=Int.le_antisymm (x.least _ y.nn y.cov) (y.least _ x.nn x.cov)
theorem Gd.more (N:Nx a ps f)(hl:0≤l){m n:Nat}(h:Gd a ps f m l)(hmn:m≤n):Gd a ps f n l:=by
 rcases h with h | ⟨x,hx,hr⟩
 ·exact .inl h
 ·exact .inr ⟨x,hx,Int.le_trans hr (D_ N hl hmn x)⟩
theorem fK.sub {fk fk':List Int}{m:Nat}(h:∀ x∈fk,x∈fk')(c:fK a fk' m l):fK a fk m l:=by
 obtain⟨S,h1,h2⟩:=c
 exact⟨S,h1,fun x hx=>h2 x (h x hx)⟩
theorem fK.more {fk:List Int}{m n:Nat}(h:m≤n)(c:fK a fk m l):fK a fk n l:=by
 obtain⟨S,h1,h2⟩:=c
 exact⟨S,Nat.le_trans h1 h,h2⟩
theorem fK.turn {fk:List Int}{m:Nat}(t:Int)(c:fK a fk m l):fK a (fk.map fun x=>(x+t) % a) m l:=by
 obtain⟨S,h1,h2⟩:=c
 refine⟨S.map (·+t),by rw[List.length_map];exact h1,fun y hy=>?_⟩
 obtain⟨x,hx,rfl⟩:=List.mem_map.mp hy
 obtain⟨s,hs,h3⟩:=h2 x hx
 refine⟨s+t,List.mem_map.mpr ⟨s,hs,rfl⟩,?_⟩
 rw[Int.emod_sub_emod,show x+t - (s+t)=x - s by omega]
 exact h3
end
structure Rs (a:Int)(ps:List Int):Prop where
 a0:0<a
 a1:a≤10 ^ 22
 p:∀ p∈ps,0≤p∧p<a
 s:ps.Pairwise (·<·)
 n:ps.length≤7
theorem Rs.bd {a:Int}{ps:List Int}(R:Rs a ps):bd a 100:=cL (by have:=R.a0;omega) (by have:=R.a1;omega)
theorem Rs.nx {a:Int}{ps:List Int}(R:Rs a ps)(hn:ps≠[]):Nx a ps (eZ a ps):=C1 R.a0 R.p R.s hn
theorem Rs.st {a x:Int}{ps:List Int}(R:Rs a ps)(h:x∈ps):St a ps x:=by
 unfold St
 rw[Int.emod_eq_of_lt (R.p _ h).1 (R.p _ h).2]
 exact h
abbrev gs (a:Int)(ps:List Int)(l:Int):Int->Int:=gr (eZ a ps) l
def jo (g:Int->Int)(lim:Int):Nat->Int->List Int
 | 0,_=>[]
 | n+1,x=>if x<lim then x::jo g lim n (g x) else []
def iM (a first:Int)(ps:List Int)(x:Int):Nat:=(ps.filter fun p=>decide (x≤if first≤p then p else p+a)).length
theorem vO (a first:Int)(ps:List Int)(x:Int):iM a first ps x≤ps.length:=List.length_filter_le ..
theorem vP {a first x y:Int}{ps:List Int}(R:Rs a ps)(h0:0≤first)(h1:first<a)(hx:St a ps x)(hf:first≤x)(hl:x<first+a)(hxy:x<y):iM a first ps y<iM a first ps x:=by
 unfold iM
 have e:(ps.filter fun p=>decide (y≤if first≤p then p else p+a))=((ps.filter fun p=>decide (x≤if first≤p then p else p+a)).filter fun p=>decide (y≤if first≤p then p else p+a)):=by
  rw[List.filter_filter]
  congr 1
  funext p
  by_cases h:y≤if first≤p then p else p+a
  ·rw[decide_eq_true h,decide_eq_true (show x≤_ by omega)];rfl
  ·rw[decide_eq_false h];rfl
 rw[e,List.length_filter_lt_length_iff_exists]
 have hd:=Int.emod_add_mul_ediv x a
 have h2:=R.p _ hx
 have hv:(if first≤x % a then x % a else x % a+a)=x:=by
  have a0:=R.a0
  by_cases hc:first≤x % a
  ·rw[if_pos hc]
   have hq:x / a=0:=by
    rcases Int.lt_trichotomy (x / a) 0 with hq | hq | hq
    ·have:=ot a0 hq;rw[Int.mul_comm] at this;omega
    ·exact hq
    ·have:=ot a0 hq;rw[Int.mul_comm (x / a)] at this;omega
   rw[hq] at hd;omega
  ·rw[if_neg hc]
   have hq:x / a=1:=by
    rcases Int.lt_trichotomy (x / a) 1 with hq | hq | hq
    ·have:=ot a0 hq;rw[Int.mul_comm (x / a)] at this;omega
    ·exact hq
    ·have:=ot a0 hq;rw[Int.mul_comm (x / a)] at this;omega
   rw[hq] at hd;omega
 refine⟨x % a,List.mem_filter.mpr ⟨hx,?_⟩,?_⟩
 ·rw[hv];exact decide_eq_true (Int.le_refl _)
 ·rw[hv,decide_eq_false (by omega)];exact Bool.false_ne_true
theorem vf {a first l:Int}{ps:List Int}(R:Rs a ps)(hn:ps≠[])(hl:0≤l)(h0:0≤first)(h1:first<a):∀ (fuel:Nat) (x:Int),iM a first ps x<fuel->St a ps x->first≤x ->
  (jo (gs a ps l) (first+a) fuel x).length≤iM a first ps x∧∀ y∈jo (gs a ps l) (first+a) fuel x,first≤y∧y<first+a
 | 0,x,h,_,_=>absurd h (Nat.not_lt_zero _)
 | fuel+1,x,h,hx,hf=>by
  rw[jo]
  by_cases hc:x<first+a
  ·rw[if_pos hc]
   have hg:x+l+1≤gs a ps l x:=ri (R.nx hn) x
   have hlt:=vP (y:=gs a ps l x) R h0 h1 hx hf hc (by omega)
   obtain⟨k1,k2⟩:=vf R hn hl h0 h1 fuel (gs a ps l x) (by omega) (wL (R.nx hn) x) (by omega)
   refine⟨by rw[List.length_cons];omega,fun y hy=>?_⟩
   rcases List.mem_cons.mp hy with rfl | hy
   ·exact⟨hf,hc⟩
   ·exact k2 y hy
  ·rw[if_neg hc]
   exact⟨Nat.zero_le _,fun y hy=>by cases hy⟩
theorem u4 {a first l:Int}{ps:List Int}(R:Rs a ps)(hn:ps≠[])(hl:0≤l)(hl1:l≤10 ^ 22)(h0:0≤first)(h1:first<a):∀ (fuel:Nat) (xs:List Int) (x:Int),iM a first ps x<fuel->xs.length+iM a first ps x≤500->St a ps x->first≤x->x≤10 ^ 23 ->
  ∃ y,cQ nA mU fuel [some (.int a),some (.list (ps.map .int)),some (.int l),some (.int first),some (.list (xs.map .int)),some (.int x)]=some (.nx [some (.int a),some (.list (ps.map .int)),some (.int l),some (.int first),some (.list ((xs++jo (gs a ps l) (first+a) fuel x).map .int)),y])
 | 0,xs,x,h,_,_,_,_=>absurd h (Nat.not_lt_zero _)
 | fuel+1,xs,x,h,hb,hx,hf,hu=>by
  have a0:=R.a0
  have a1:=R.a1
  have e1:nA [some (.int a),some (.list (ps.map .int)),some (.int l),some (.int first),some (.list (xs.map .int)),some (.int x)]=some (decide (x<first+a)):=by
   simp only[nA]
   walk_at "ev"
  rw[jo]
  by_cases hc:x<first+a
  ·rw[if_pos hc]
   have hg:x+l+1≤gs a ps l x:=ri (R.nx hn) x
   have hlt:=vP (y:=gs a ps l x) R h0 h1 hx hf hc (by omega)
   have hi:=wD (n:=x+l+1) a0 R.p hn
   have e2:mU [some (.int a),some (.list (ps.map .int)),some (.int l),some (.int first),some (.list (xs.map .int)),some (.int x)]=some (.nx [some (.int a),some (.list (ps.map .int)),some (.int l),some (.int first),some (.list ((xs++[x]).map .int)),some (.int (gs a ps l x))]):=by
    simp only[mU]
    walk_at "ev"
    rw[qI (ds:=xs.map .int) rfl (by simp;omega)]
    walk_at "ev"
    rw[wB a0 R.bd (vX a0 (by omega) (by omega)) hn]
    walk_at "ev"
    simp[gs,gr]
   obtain⟨y,ih⟩:=u4 R hn hl hl1 h0 h1 fuel (xs++[x]) (gs a ps l x) (by omega) (by simp;omega) (wL (R.nx hn) x) (by omega) (by show eZ a ps (x+l+1)≤_;omega)
   refine⟨y,?_⟩
   rw[cQ,e1,decide_eq_true hc,Option.bind_some,if_pos rfl,e2,Option.bind_some]
   dsimp only
   rw[ih,List.append_assoc]
   rfl
  ·rw[if_neg hc]
   refine⟨some (.int x),?_⟩
   rw[cQ,e1,decide_eq_false hc,List.append_nil]
   rfl
def jn (a:Int)(ps:List Int)(l first:Int):List Int:=jo (gs a ps l) (first+a) 64 first
theorem Bk {a first l:Int}{ps:List Int}(R:Rs a ps)(hf:first∈ps)(hl:0≤l)(hl1:l≤10 ^ 22):jS [.int a,.list (ps.map .int),.int l,.int first]=some (.list ((jn a ps l first).map .int)):=by
 obtain⟨h0,h1⟩:=R.p _ hf
 have a1:=R.a1
 have c1:=vO a first ps first
 have c2:=R.n
 obtain⟨y,e⟩:=u4 R (List.ne_nil_of_mem hf) hl hl1 h0 h1 64 [] first (by omega) (by simp;omega) (R.st hf) (Int.le_refl _) (by omega)
 rw[jS]
 walk_at "ev"
 simp only[pj]
 walk_at "ev"
 rw[show (PyData.list []:PyData)=.list (([]:List Int).map .int) from rfl,e]
 walk_at "ev"
 rfl
theorem Bj {a first l:Int}{ps:List Int}(R:Rs a ps)(hf:first∈ps)(hl:0≤l):(jn a ps l first).length≤8∧∀ y∈jn a ps l first,0≤y∧y≤10 ^ 23:=by
 obtain⟨h0,h1⟩:=R.p _ hf
 have a1:=R.a1
 have c1:=vO a first ps first
 have c2:=R.n
 obtain⟨k1,k2⟩:=vf R (List.ne_nil_of_mem hf) hl h0 h1 64 first (by omega) (R.st hf) (Int.le_refl _)
 refine⟨Nat.le_trans k1 (by omega),fun y hy=>?_⟩
 have:=k2 y hy
 omega
def encA (r:List Int):PyData:=.list (r.map .int)
theorem rR:∀ (As:List (List Int)) (A:List Int),∃ B,jy iY (encA A) A.length (As.map encA)=some (encA B)∧B∈A::As∧∀ C∈A::As,B.length≤C.length
 | [],A=>⟨A,rfl,List.mem_cons_self,fun C h=>by
   have:C=A:=by simpa using h
   rw[this];exact Nat.le_refl _⟩
 | D::As,A=>by
  have ek:jw iY (encA D)=some (D.length:Int):=by simp[jw,iY,encA,dh]
  rw[List.map_cons,jy,ek,Option.bind_some]
  by_cases hc:(D.length:Int)<A.length
  ·rw[if_pos hc]
   obtain⟨B,h1,h2,h3⟩:=rR As D
   refine⟨B,h1,List.mem_cons_of_mem _ h2,fun C hC=>?_⟩
   rcases List.mem_cons.mp hC with rfl | hC
   ·have:=h3 D List.mem_cons_self;omega
   ·exact h3 C hC
  ·rw[if_neg hc]
   obtain⟨B,h1,h2,h3⟩:=rR As A
   refine⟨B,h1,?_,fun C hC=>?_⟩
   ·rcases List.mem_cons.mp h2 with h2 | h2
    ·rw[h2];exact List.mem_cons_self
    ·exact List.mem_cons_of_mem _ (List.mem_cons_of_mem _ h2)
   ·rcases List.mem_cons.mp hC with rfl | hC
    ·exact h3 _ List.mem_cons_self
    ·rcases List.mem_cons.mp hC with rfl | hC
     ·have:=h3 A List.mem_cons_self;omega
     ·exact h3 C (List.mem_cons_of_mem _ hC)
theorem xY {As:List (List Int)}:(As=[]∧l4 (.list (As.map encA))=some (encA []))∨∃ B,l4 (.list (As.map encA))=some (encA B)∧B∈As∧∀ C∈As,B.length≤C.length:=by
 cases As with
 | nil=>exact .inl ⟨rfl,rfl⟩
 | cons A As=>
  obtain⟨B,h1,h2,h3⟩:=rR As A
  refine .inr ⟨B,?_,h2,h3⟩
  have ek:jw iY (encA A)=some (A.length:Int):=by simp[jw,iY,encA,dh]
  show l3 iY (.list (encA A::As.map encA))=_
  rw[l3,ek,Option.bind_some]
  exact h1
structure Az (B:List Int):Prop where
 n:B.length≤8
 i:∀ y∈B,0≤y∧y≤10 ^ 23
theorem wj {a l:Int}{ps:List Int}(R:Rs a ps)(hl:0≤l)(hl1:l≤10 ^ 22):∃ B,gh [.int a,.list (ps.map .int),.int l]=some (encA B)∧Az B:=by
 have c2:=R.n
 have hlen:(ps.map PyData.int).length≤1000:=by rw[List.length_map];omega
 have hc:=iN (S:=aO 0) (fe:=pO) PyData.int encA (jn a ps l) (fun ρ=>∃ c,ρ=[c,some (.int a),some (.list (ps.map .int)),some (.int l)]) (fun x=>x∈ps) (by
  rintro x ρ hx ⟨c,rfl⟩
  refine⟨[some (.int x),some (.int a),some (.list (ps.map .int)),some (.int l)],rfl,⟨_,rfl⟩,?_⟩
  simp only[pO]
  walk_at "ev"
  exact Bk R hx hl hl1) ps [none,some (.int a),some (.list (ps.map .int)),some (.int l)] ⟨_,rfl⟩ (fun x hx=>hx)
 have hfr:frees 1 [0,1,2] [some (.int a),some (.list (ps.map .int)),some (.int l)]=[none,some (.int a),some (.list (ps.map .int)),some (.int l)]:=rfl
 have e:gh [.int a,.list (ps.map .int),.int l]=l4 (.list ((ps.map (jn a ps l)).map encA)):=by
  rw[gh]
  walk_at "ev"
  simp only[pq]
  walk_at "ev"
  rw[hfr,iO hlen,hc]
  walk_at "ev"
  rcases xY (As:=ps.map (jn a ps l)) with ⟨_,h⟩ | ⟨B,h,_⟩ <;> rw[h] <;> rfl
 rw[e]
 rcases xY (As:=ps.map (jn a ps l)) with ⟨h0,h⟩ | ⟨B,h,hB,hm⟩
 ·exact⟨[],h,Nat.zero_le _,fun y hy=>by cases hy⟩
 ·obtain⟨x,hx,rfl⟩:=List.mem_map.mp hB
  obtain⟨k1,k2⟩:=Bj R hx hl
  exact⟨_,h,k1,k2⟩
theorem ES {L:List Int}{k:Int}(h:L.Nodup):(fA L k).Nodup:=by
 unfold fA
 split
 ·exact h
 ·rename_i hk
  rw[List.nodup_append]
  exact⟨h,by simp,fun x hx y hy e=>by
   have:y=k:=by simpa using hy
   rw[e,this] at hx
   exact hk hx⟩
theorem yb (val:Nat->Int):∀ i,(dQ val i).Nodup
 | 0=>by simp[dQ]
 | i+1=>by rw[dQ];exact ES (yb val i)
theorem GV (fk:List Int):(b9 fk).Pairwise (·<·):=by
 have h1:=rq (uniq fk)
 have h2:(b9 fk).Nodup:=(iW _).nodup_iff.mpr (yb _ _)
 exact (h1.and h2).imp fun ⟨h3,h4⟩=>by omega
def gy (a:Int)(ps:List Int)(one:Int):List Int:=ps.map fun o=>(o - one) % a
theorem CM {i:Nat}{ρ:aa}{ds zs:List PyData}(h:ρ[i]?=some (some (.list ds)))(hl:ds.length+zs.length<1000):nX i ρ zs=some (.nx (ρ.set i (some (.list (ds++zs))))):=by
 unfold nX
 rw[h]
 simp only[Option.join_some,Option.bind_some,br]
 rw[if_pos (decide_eq_true hl)]
theorem xV {a:Int}{ps:List Int}(R:Rs a ps):∀ (qs acc:List Int) (c:Option PyData),acc.length+qs.length*7≤500 ->
  ∃ c',cA (aO 3) mY (qs.map PyData.int) [some (.int a),some (.list (ps.map .int)),some (.list (acc.map .int)),c]=some (.nx [some (.int a),some (.list (ps.map .int)),some (.list ((acc++(qs.map (gy a ps)).flatten).map .int)),c'])
 | [],acc,c,_=>⟨c,by simp[cA]⟩
 | q::qs,acc,c,h=>by
  have hn:=R.n
  have a0:=R.a0
  have hlen:(ps.map PyData.int).length≤1000:=by rw[List.length_map];omega
  have hc:=iN (S:=aO 0) (fe:=pQ) PyData.int PyData.int (fun o=>(o - q) % a) (fun ρ=>∃ c,ρ=[c,some (.int q),some (.int a)]) (fun x=>True) (by
   rintro x ρ hx ⟨c,rfl⟩
   refine⟨[some (.int x),some (.int q),some (.int a)],rfl,⟨_,rfl⟩,?_⟩
   simp only[pQ]
   walk_at "ev"
   rw[b8 a0]) ps [none,some (.int q),some (.int a)] ⟨_,rfl⟩ (fun x hx=>True.intro)
  have hfr:frees 1 [3,0] [some (.int a),some (.list (ps.map .int)),some (.list (acc.map .int)),some (.int q)]=[none,some (.int q),some (.int a)]:=rfl
  have e2:mY [some (.int a),some (.list (ps.map .int)),some (.list (acc.map .int)),some (.int q)]=some (.nx [some (.int a),some (.list (ps.map .int)),some (.list ((acc++gy a ps q).map .int)),some (.int q)]):=by
   simp only[mY]
   walk_at "ev"
   rw[hfr,iO hlen,hc]
   walk_at "ev"
   rw[if_pos (xO _)]
   walk_at "ev"
   rw[CM (ds:=acc.map .int) rfl (by simp[List.length_cons] at h ⊢;omega)]
   walk_at "ev"
   rw[← List.map_append]
   rfl
  obtain⟨c',ih⟩:=xV R qs (acc++gy a ps q) (some (.int q)) (by simp[gy] at h ⊢;omega)
  refine⟨c',?_⟩
  rw[List.map_cons,q0 (ρ1:=[some (.int a),some (.list (ps.map .int)),some (.list (acc.map .int)),some (.int q)]) rfl e2,ih]
  simp
def f6 (a:Int)(ps:List Int):List Int:=b9 (0::(ps.map (gy a ps)).flatten)
theorem wq {a:Int}{ps:List Int}:∀ qs:List Int,((qs.map (gy a ps)).flatten).length=qs.length*ps.length
 | []=>by simp
 | q::qs=>by rw[List.map_cons,List.flatten_cons,List.length_append,wq qs,List.length_cons,Nat.succ_mul];simp[gy];omega
theorem xW {a:Int}{ps:List Int}(R:Rs a ps):(0::(ps.map (gy a ps)).flatten).length<64:=by
 have hn:=R.n
 rw[List.length_cons,wq]
 have:ps.length*ps.length≤7*7:=Nat.mul_le_mul hn hn
 omega
theorem EE {a:Int}{ps:List Int}(R:Rs a ps):jV [.int a,.list (ps.map .int)]=some (.list ((f6 a ps).map .int)):=by
 have hn:=R.n
 obtain⟨c',e⟩:=xV R ps [0] none (by simp;omega)
 rw[jV]
 walk_at "ev"
 simp only[pF]
 walk_at "ev"
 rw[show (PyData.list [.int 0]:PyData)=.list (([0]:List Int).map .int) from rfl,e]
 walk_at "ev"
 rw[show (PyData.list (PyData.int 0::((ps.map (gy a ps)).flatten).map PyData.int))=.list ((0::(ps.map (gy a ps)).flatten).map PyData.int) from rfl,mj (xW R)]
 walk_at "ev"
 rfl
theorem rP {a x:Int}{ps:List Int}:x∈f6 a ps↔x=0∨∃ p∈ps,∃ q∈ps,x=(q - p) % a:=by
 unfold f6
 rw[sf,List.mem_cons,List.mem_flatten]
 constructor
 ·rintro (h | ⟨L,h1,h2⟩)
  ·exact .inl h
  ·obtain⟨p,hp,rfl⟩:=List.mem_map.mp h1
   obtain⟨q,hq,rfl⟩:=List.mem_map.mp h2
   exact .inr ⟨p,hp,q,hq,rfl⟩
 ·rintro (h | ⟨p,hp,q,hq,rfl⟩)
  ·exact .inl h
  ·exact .inr ⟨_,List.mem_map.mpr ⟨p,hp,rfl⟩,List.mem_map.mpr ⟨q,hq,rfl⟩⟩
theorem xM {a x:Int}{ps:List Int}(R:Rs a ps)(h:x∈f6 a ps):0≤x∧x<a:=by
 have a0:=R.a0
 rcases rP.mp h with rfl | ⟨p,_,q,_,rfl⟩
 ·omega
 ·exact⟨Int.emod_nonneg _ (by omega),Int.emod_lt_of_pos _ a0⟩
theorem rh {c:PyData}{ls:List Int}{P:Int->Prop}(hP:∀ x∈ls,tJ (P x) (d_ FT c [.int x]))(h2:ls.length≤63):∀ (fuel:Nat) (lo hi:Nat) (m:Option PyData),hi - lo<fuel->lo≤hi->hi<ls.length->(hi=ls.length - 1∨P (ls.getD hi 0))->(lo=0∨¬ P (ls.getD (lo - 1) 0)) ->
  ∃ (p:Nat) (h m':Option PyData),p<ls.length∧cQ nB j1 fuel [some c,some (.list (ls.map .int)),some (.int lo),some (.int hi),m]=some (.nx [some c,some (.list (ls.map .int)),some (.int p),h,m'])∧(p=ls.length - 1∨P (ls.getD p 0))∧(p=0∨¬ P (ls.getD (p - 1) 0))
 | 0,lo,hi,m,h,_,_,_,_=>absurd h (Nat.not_lt_zero _)
 | fuel+1,lo,hi,m,h,hlh,hin,hH,hL=>by
  have e1:nB [some c,some (.list (ls.map .int)),some (.int lo),some (.int hi),m]=some (decide ((lo:Int)<hi)):=by
   simp only[nB]
   walk_at "ev"
  by_cases hc:lo<hi
  ·have hmid:((lo:Int)+hi) / 2=((lo+hi) / 2:Nat):=by omega
   have m1:lo≤(lo+hi) / 2:=by omega
   have m2:(lo+hi) / 2<hi:=by omega
   generalize hM:(lo+hi) / 2=M at hmid m1 m2
   have hMl:M<ls.length:=by omega
   have hx:ls.getD M 0∈ls:=getD_mem hMl
   rw[cQ,e1,decide_eq_true (by omega),Option.bind_some,if_pos rfl]
   rcases hP _ hx with ⟨t,ht⟩ | ⟨t,ht⟩
   ·have e2:j1 [some c,some (.list (ls.map .int)),some (.int lo),some (.int hi),m]=some (.nx [some c,some (.list (ls.map .int)),some (.int lo),some (.int M),some (.int M)]):=by
     simp only[j1]
     walk_at "ev"
     rw[cY (by decide) ((cL (by decide) (by decide):bd 2 100).big (by decide)),hmid]
     walk_at "ev"
     rw[qP hMl]
     walk_at "ev"
     rw[ht]
     walk_at "ev"
    obtain⟨p,h',m',q1,q2,q3⟩:=rh hP h2 fuel lo M (some (.int M)) (by omega) m1 hMl (.inr t) hL
    exact⟨p,h',m',q1,by rw[e2,Option.bind_some];exact q2,q3⟩
   ·have e2:j1 [some c,some (.list (ls.map .int)),some (.int lo),some (.int hi),m]=some (.nx [some c,some (.list (ls.map .int)),some (.int ((M+1:Nat):Int)),some (.int hi),some (.int M)]):=by
     simp only[j1]
     walk_at "ev"
     rw[cY (by decide) ((cL (by decide) (by decide):bd 2 100).big (by decide)),hmid]
     walk_at "ev"
     rw[qP hMl]
     walk_at "ev"
     rw[ht]
     walk_at "ev"
     rfl
    obtain⟨p,h',m',q1,q2,q3⟩:=rh hP h2 fuel (M+1) hi (some (.int M)) (by omega) (by omega) hin hH (.inr (by rw[Nat.add_sub_cancel];exact t))
    exact⟨p,h',m',q1,by rw[e2,Option.bind_some];exact q2,q3⟩
  ·have:lo=hi:=by omega
   subst this
   refine⟨lo,some (.int lo),m,hin,?_,hH,hL⟩
   rw[cQ,e1,decide_eq_false (by omega)]
   rfl
theorem C5 {c:PyData}{ls:List Int}{P:Int->Prop}(hP:∀ x∈ls,tJ (P x) (d_ FT c [.int x]))(h1:1≤ls.length)(h2:ls.length≤63) :
  ∃ p:Nat,p<ls.length∧jU [c,.list (ls.map .int)]=some (.int p)∧(p=ls.length - 1∨P (ls.getD p 0))∧(p=0∨¬ P (ls.getD (p - 1) 0)):=by
 obtain⟨p,h,m',q1,q2,q3⟩:=rh hP h2 64 0 (ls.length - 1) none (by omega) (by omega) (by omega) (.inl rfl) (.inl rfl)
 refine⟨p,q1,?_,q3⟩
 rw[jU]
 walk_at "ev"
 simp only[pz]
 walk_at "ev"
 rw[List.length_map,show ((ls.length:Int) - 1)=((ls.length - 1:Nat):Int) by omega,show (PyData.int 0)=.int ((0:Nat):Int) from rfl,q2]
 walk_at "ev"
theorem DE {a l many:Int}{ps:List Int}(R:Rs a ps)(hl:0≤l)(hl1:l≤10 ^ 22):∃ t,d_ FT (clo "least_length@0" [.list (ps.map .int),.int many,.int a]) [.int l]=some (.bool t):=by
 obtain⟨B,e,F⟩:=wj R hl hl1
 have hx:d_ FT (clo "least_length@0" [.list (ps.map .int),.int many,.int a]) [.int l]=some (.bool (decide ((B.length:Int)≤many))):=by
  rw[vd]
  show mG [.int l,.list (ps.map .int),.int many,.int a]=_
  rw[mG,kD]
  walk_at "ev"
  simp only[pP]
  walk_at "ev"
  rw[e]
  simp only[encA]
  walk_at "ev"
  rw[List.length_map]
 exact⟨_,hx⟩
theorem rJ {a many:Int}{ps:List Int}(R:Rs a ps)(hm:1≤many):∃ l,eW [.int a,.list (ps.map .int),.int many]=some (.int l)∧0≤l∧l<a∧(l≠0->ps≠[]):=by
 have a0:=R.a0
 have a1:=R.a1
 have hlen:=xW R
 have hn2:(f6 a ps).length≤63:=by
  have:(f6 a ps).length≤_:=yO
  omega
 have h0m:(0:Int)∈f6 a ps:=rP.mpr (.inl rfl)
 have hn1:1≤(f6 a ps).length:=List.length_pos_of_mem h0m
 have hP:∀ x∈f6 a ps,tJ (d_ FT (clo "least_length@0" [.list (ps.map .int),.int many,.int a]) [.int x]=some (.bool true)) (d_ FT (clo "least_length@0" [.list (ps.map .int),.int many,.int a]) [.int x]):=fun x hx=>by
  have:=xM R hx
  obtain⟨t,e⟩:=DE (many:=many) R (l:=x) (by omega) (by omega)
  rw[e]
  cases t
  ·exact .inr ⟨fun z=>(by cases z),rfl⟩
  ·exact .inl ⟨rfl,rfl⟩
 obtain⟨p,p1,p2,p3,p4⟩:=C5 hP hn1 hn2
 have hpm:=getD_mem (x0:=(0:Int)) p1
 obtain⟨i1,i2⟩:=xM R hpm
 refine⟨(f6 a ps).getD p 0,?_,i1,i2,fun z y=>?_⟩
 ·have hcap:iK [1,2,0] [some (.int a),some (.list (ps.map .int)),some (.int many),some (.list ((f6 a ps).map .int)),none]=some [.list (ps.map .int),.int many,.int a]:=rfl
  rw[eW]
  walk_at "ev"
  simp only[pD]
  walk_at "ev"
  rw[EE R]
  walk_at "ev"
  rw[hcap]
  walk_at "ev"
  rw[p2,nZ (show nf (.int (p:Int))=true from rfl)]
  walk_at "ev"
  rw[qP p1]
  walk_at "ev"
 ·rcases rP.mp hpm with h | ⟨q,hq,_⟩
  ·exact z h
  ·rw[y] at hq;cases hq
theorem sk {a:Int}{fk:List Int}(a0:0<a)(a1:a≤10 ^ 22)(h:∀ x∈fk,cj a x)(hl:fk.length≤7):Rs a (b9 fk):=
 ⟨a0,a1,fun p hp=>let z:=h p (sf.mp hp);⟨z.l,z.u⟩,GV fk,Nat.le_trans yO hl⟩
theorem qQ {m:Int}(h:1≤m):jZ [.int m]=some .none:=by
 rw[jZ]
 walk_at "ev"
 simp only[uc]
 walk_at "ev"
 rw[decide_eq_false (by omega)]
 walk_at "ev"
theorem H_ {a many:Int}{fk:List Int}(a0:0<a)(a1:a≤10 ^ 22)(h:∀ x∈fk,cj a x)(hl:fk.length≤7)(hm:1≤many) :
  ∃ l,pZ [.int a,.list (fk.map .int),.int many]=some (encP (e9 l 2)):=by
 have R:=sk a0 a1 h hl
 obtain⟨l,e,_⟩:=rJ R hm
 refine⟨l,?_⟩
 rw[pZ]
 walk_at "ev"
 simp only[ug]
 walk_at "ev"
 rw[qQ hm]
 walk_at "ev"
 rw[lD a fk (by omega) h]
 walk_at "ev"
 rw[mj (by omega)]
 walk_at "ev"
 rw[e]
 walk_at "ev"
 rw[rf l 2 (by decide) (by unfold bd;decide)]
 walk_at "ev"
def tw (a l s:Int):Int:=(2*s+l) % (2*a)
def kP (a l:Int)(B:List Int):List Int:=eM (B.map (tw a l))
theorem Ij {a many:Int}{fk:List Int}(a0:0<a)(a1:a≤10 ^ 22)(h:∀ x∈fk,cj a x)(hl:fk.length≤7)(hm:1≤many) :
  ∃ l B,p5 [.int a,.list (fk.map .int),.int many]=some (aX ((kP a l B).map fun t=>e9 t 2)):=by
 have R:=sk a0 a1 h hl
 obtain⟨l,e,l0,la,_⟩:=rJ R hm
 obtain⟨B,eB,F⟩:=wj (l:=l) R l0 (by omega)
 have hn:=F.n
 have b2:bd (2:Int) 100:=by unfold bd;decide
 have hc:=iN (S:=aO 0) (fe:=mC) PyData.int PyData.int (tw a l) (fun ρ=>∃ c,ρ=[c,some (.int l),some (.int a)]) (fun x=>0≤x∧x≤10 ^ 23) (by
  rintro x ρ hx ⟨c,rfl⟩
  refine⟨[some (.int x),some (.int l),some (.int a)],rfl,⟨_,rfl⟩,?_⟩
  simp only[mC]
  walk_at "ev"
  rw[di (b2.big (by decide)) ((cL (by omega) (by omega):bd x 100).big (by decide)),di (b2.big (by decide)) (R.bd.big (by decide))]
  walk_at "ev"
  rw[b8 (by omega)]
  rfl) B [none,some (.int l),some (.int a)] ⟨_,rfl⟩ F.i
 have hlen:(B.map PyData.int).length≤1000:=by rw[List.length_map];omega
 have hlt:(kP a l B).length≤8:=by unfold kP;rw[(iW _).length_eq,List.length_map];exact hn
 have hlen2:((kP a l B).map PyData.int).length≤1000:=by rw[List.length_map];omega
 have hc2:=iN (S:=aO 0) (fe:=mD) PyData.int encP (fun t=>e9 t 2) (fun ρ=>∃ c,ρ=[c]) (fun x=>True) (by
  rintro x ρ hx ⟨c,rfl⟩
  refine⟨[some (.int x)],rfl,⟨_,rfl⟩,?_⟩
  simp only[mD]
  walk_at "ev"
  rw[rf x 2 (by decide) (by unfold bd;decide)]) (kP a l B) [none] ⟨_,rfl⟩ (fun x hx=>True.intro)
 have hs:kH (.list ((B.map (tw a l)).map PyData.int))=some ((kP a l B).map .int):=by
  unfold kH
  dsimp only
  rw[rm,Option.bind_some,if_pos (decide_eq_true (by rw[List.length_map];omega))]
  rfl
 refine⟨l,B,?_⟩
 have hfr:∀ z,frees 1 [4,0] [some (.int a),some (.list (fk.map .int)),some (.int many),some (.list ((b9 fk).map .int)),some (.int l),z]=[none,some (.int l),some (.int a)]:=fun z=>rfl
 rw[p5]
 walk_at "ev"
 simp only[uh]
 walk_at "ev"
 rw[qQ hm]
 walk_at "ev"
 rw[lD a fk (by omega) h]
 walk_at "ev"
 rw[mj (by omega)]
 walk_at "ev"
 rw[e]
 walk_at "ev"
 rw[eB]
 simp only[encA]
 walk_at "ev"
 rw[hfr,iO hlen,hc]
 walk_at "ev"
 rw[hs]
 walk_at "ev"
 rw[show frees 1 [] [some (.int a),some (.list (fk.map .int)),some (.int many),some (.list ((b9 fk).map .int)),some (.int l),some (.list ((B.map (tw a l)).map .int))]=[none] from rfl,iO hlen2,hc2]
 walk_at "ev"
 rfl
theorem yR:bI (.int 10) (.int 20)=some (.int (10 ^ 20)):=rfl
theorem yS:bI (.int 10) (.int 21)=some (.int (10 ^ 21)):=rfl
def Ii (a:Int)(ps:List Int)(l:Int)(n:Nat):List (List Int):=ps.map fun p=>lQ (ip a ps l) n p
theorem Ip {a many:Int}{fk:List Int}(a0:0<a)(a1:a≤10 ^ 20)(h:∀ x∈fk,cj a x)(hl:fk.length≤6)(hm:1≤many)(cm:many≤6) :
  ∃ l,p7 [.int a,.list (fk.map .int),.int many]=some (if l=0 then .none else Cz (Ii a (b9 fk) l (many.toNat+1))):=by
 have R:=sk a0 (show a≤10 ^ 22 by omega) h (by omega)
 obtain⟨l,e,l0,la,lp⟩:=rJ R hm
 refine⟨l,?_⟩
 rw[p7]
 walk_at "ev"
 simp only[uj]
 walk_at "ev"
 rw[qQ hm]
 walk_at "ev"
 rw[lD a fk (by omega) h]
 walk_at "ev"
 rw[mj (by omega)]
 walk_at "ev"
 rw[e]
 walk_at "ev"
 by_cases h0:l=0
 ·rw[Bv h0,if_pos h0]
  walk_at "ev"
 ·rw[Bu h0,if_neg h0]
  walk_at "ev"
  have hps:=lp h0
  have hlen:((b9 fk).map PyData.int).length≤1000:=by rw[List.length_map];have:=R.n;omega
  have hc:=iN (S:=aO 0) (fe:=mE) PyData.int v9 (fun p=>lQ (ip a (b9 fk) l) (many.toNat+1) p) (fun ρ=>∃ c,ρ=[c,some (.int a),some (.list ((b9 fk).map .int)),some (.int l),some (.int many)]) (fun x=>x∈b9 fk) (by
   rintro x ρ hx ⟨c,rfl⟩
   refine⟨[some (.int x),some (.int a),some (.list ((b9 fk).map .int)),some (.int l),some (.int many)],rfl,⟨_,rfl⟩,?_⟩
   simp only[mE]
   walk_at "ev"
   have hx':=R.p _ hx
   rw[Jo a0 R.bd a1 R.p hps l0 (by omega) (by omega) (by omega) hx'.1 (by omega),show (many+1).toNat=many.toNat+1 by omega]
   rfl) (b9 fk) [none,some (.int a),some (.list ((b9 fk).map .int)),some (.int l),some (.int many)] ⟨_,rfl⟩ (fun x hx=>hx)
  rw[show frees 1 [0,3,4,2] [some (.int a),some (.list (fk.map .int)),some (.int many),some (.list ((b9 fk).map .int)),some (.int l)]=[none,some (.int a),some (.list ((b9 fk).map .int)),some (.int l),some (.int many)] from rfl,iO hlen,hc]
  walk_at "ev"
  rfl
theorem xR {f:Int}(h:f.natAbs<2 ^ 200):f.natAbs.log2<1920:=by
 by_cases h0:f.natAbs=0
 ·rw[h0];decide
 ·exact Nat.lt_trans ((Nat.log2_lt h0).mpr h) (by decide)
def kg {α:Type}(e:α->PyData):Nat->List α->List PyData
 | _,[]=>[]
 | k,o::r=>.tuple [.int (k:Nat),e o]::kg e (k+1) r
theorem qV {α:Type}(e:α->PyData)(P:List α):dg (P.map e)=kg e 0 P:=by
 have h:∀ (P:List α) (k:Nat),(List.range' k (P.map e).length).zipWith (fun i d=>PyData.tuple [.int ((i:Nat):Int),d]) (P.map e)=kg e k P:=fun P=>by
  induction P with
  | nil=>exact fun _=>rfl
  | cons p r ih=>
   intro k
   have:=ih (k+1)
   rw[List.map_cons,List.length_cons,List.range'_succ,List.zipWith_cons_cons,this]
   rfl
 unfold dg
 rw[List.range_eq_range']
 exact h P 0
def fu {α:Type}(q:α->Bool):Nat->List α->Option Nat
 | _,[]=>none
 | k,o::r=>if q o=true then some k else fu q (k+1) r
def ixs {α:Type}(q:α->Bool):Nat->List α->List Nat
 | _,[]=>[]
 | k,o::r=>if q o=true then k::ixs q (k+1) r else ixs q (k+1) r
theorem rC {α:Type}(q:α->Bool):∀ (P:List α) (k:Nat),(ixs q k P).head?=fu q k P
 | [],_=>rfl
 | o::r,k=>by
  rw[ixs,fu]
  cases q o
  ·exact rC q r (k+1)
  ·rfl
theorem rg {α:Type}(q:α->Bool):∀ (P:List α) (k:Nat),fu q k P=none->∀ o∈P,q o=false
 | [],_,_,o,ho=>by cases ho
 | p::r,k,h,o,ho=>by
  rw[fu] at h
  cases hq:q p with
  | true=>rw[hq] at h;cases h
  | false=>
   rw[hq] at h
   rcases List.mem_cons.mp ho with rfl | ho
   ·exact hq
   ·exact rg q r (k+1) h o ho
theorem look {α:Type}(e:α->PyData)(q:α->Bool)(L:aa->Option bf)(x0 x1:Option PyData)(cls:Str)(R:α->Prop)(hL:∀ (k:Nat) (o:α),k<1000->R o->L [x0,x1,some (.int (k:Nat)),some (e o)]=if q o=true then some (.ex (bF cls [.str "number",.int (k:Nat)]) [x0,x1,some (.int (k:Nat)),some (e o)]) else some (.nx [x0,x1,some (.int (k:Nat)),some (e o)])) :
  ∀ (P:List α) (k:Nat) (x2 x3:Option PyData),k+P.length<1000->(∀ o∈P,R o)->∃ o,fW (ey 2 (bM (aO 2) (bM (aO 3) dE))) L (kg e k P) [x0,x1,x2,x3]=some o ∧
   match fu q k P with
   | none=>∃ y1 y2,o=.nx [x0,x1,y1,y2]
   | some j=>∃ ρ',o=.ex (bF cls [.str "number",.int (j:Nat)]) ρ'
 | [],k,x1,x2,_,_=>⟨_,rfl,_,_,rfl⟩
 | p::r,k,x2,x3,h,hR=>by
  rw[List.length_cons] at h
  have ee:=hL k p (by omega) (hR p List.mem_cons_self)
  have ih:=look e q L x0 x1 cls R hL r (k+1) (some (.int (k:Nat))) (some (e p)) (by omega) fun o ho=>hR o (List.mem_cons_of_mem _ ho)
  show ∃ o,(L [x0,x1,some (.int (k:Nat)),some (e p)]).bind _=some o∧_
  rw[ee]
  by_cases hb:q p=true
  ·rw[if_pos hb]
   refine⟨_,rfl,?_⟩
   rw[fu,if_pos hb]
   exact⟨_,rfl⟩
  ·rw[if_neg hb,fu,if_neg hb]
   exact ih
abbrev ou (i:Nat):PyData:=bF "NoFolk" [.str "number",.int (i:Nat)]
abbrev oy (i:Nat):PyData:=bF "NoPost" [.str "number",.int (i:Nat)]
def qx (a x:Int):Bool:=decide (x<0)||decide (a≤x)
def qp (a:Int)(p:Int×Int):Bool:=decide (p.1<0)||decide (a*p.2≤p.1)
theorem f9 {F G:aa->Option bf}{ρ ρ':aa}{x:PyData}(h:F ρ=some (.ex x ρ')):du F G ρ=some (.ex x ρ'):=by
 unfold du
 rw[h]
 rfl
theorem jI {F G:aa->Option bf}{ρ ρ':aa}(h:F ρ=some (.nx ρ')):du F G ρ=G ρ':=by
 unfold du
 rw[h]
 rfl
theorem oC (a b:Bool):dr (some a) (some b)=some (a||b):=by cases a <;> rfl
theorem nG (a b:Bool):cU (some a) (some b)=some (a&&b):=by cases a <;> rfl
theorem B5 {a:Int}{xs:List Int}(h:xs.length<900):bU [.int a,.list (xs.map .int)]=if a<1 then some (.exc (bF "NoRing" [])) else match fu (qx a) 0 xs with
  | none=>some (.ret .none)
  | some j=>some (.exc (ou j)):=by
 show dG (mw [some (.int a),some (.list (xs.map .int)),none,none])=_
 unfold mw
 by_cases ha:a<1
 ·rw[if_pos ha,f9 (x:=bF "NoRing" []) (ρ':=[some (.int a),some (.list (xs.map .int)),none,none])]
  ·rfl
  ·show aA (aw (bx (.int a) (.int 1))) _ _=_
   rw[f7,decide_eq_true ha]
   rfl
 ·rw[if_neg ha,jI (ρ':=[some (.int a),some (.list (xs.map .int)),none,none])]
  ·show dG (fW _ qe (dg (xs.map .int)) [some (.int a),some (.list (xs.map .int)),none,none])=_
   rw[qV]
   obtain⟨o,e1,e2⟩:=look PyData.int (qx a) qe (some (.int a)) (some (.list (xs.map .int))) "NoFolk" (fun _=>True) (fun k x hk _=>by
    show aA (dr (aw (bx (.int x) (.int 0))) (aw (eu (.int x) (.int a)))) (kC "NoFolk" "number" _ (some (.int (k:Nat)))) _=_
    rw[f7,kj,dv,dv,oC]
    show aA (some (qx a x)) _ _=_
    cases qx a x
    ·rfl
    ·show (if (((k:Nat):Int)).natAbs.log2<1920 then _ else none)=_
     rw[if_pos (xR (by omega))]
     rfl) xs 0 none none (by omega) fun _ _=>trivial
   rw[e1]
   cases q:fu (qx a) 0 xs with
   | none=>
    rw[q] at e2
    obtain⟨y1,y2,rfl⟩:=e2
    rfl
   | some j=>
    rw[q] at e2
    obtain⟨ρ',rfl⟩:=e2
    rfl
  ·show aA (aw (bx (.int a) (.int 1))) _ _=_
   rw[f7,decide_eq_false ha]
   rfl
structure PB (p:Int×Int):Prop where
 b:0<p.2
 s:bd p.1 100
 t:bd p.2 100
theorem B4 {a:Int}(ha:bd a 100){ps:List (Int×Int)}(h:ps.length<900)(hp:∀ p∈ps,PB p):iy [.int a,aX ps]=match fu (qp a) 0 ps with
  | none=>some (.ret .none)
  | some j=>some (.exc (oy j)):=by
 show dG (fW _ qf (dg (ps.map encP)) [some (.int a),some (aX ps),none,none])=_
 rw[qV]
 obtain⟨o,e1,e2⟩:=look encP (qp a) qf (some (.int a)) (some (aX ps)) "NoPost" PB (fun k p hk hp=>by
  show aA (dr (aw (ae (ay (encP p) (.int 0)) (some (.int 0)) bx)) (aw (ae (ay (encP p) (.int 0)) (ae (some (.int a)) (ay (encP p) (.int 1)) bT) eu))) (kC "NoPost" "number" _ (some (.int (k:Nat)))) _=_
  rw[show ay (encP p) (.int 0)=some (.int p.1) from rfl,show ay (encP p) (.int 1)=some (.int p.2) from rfl,bh,bh,di (ha.big (by decide)) (hp.t.big (by decide)),bh,f7,kj,dv,dv,oC]
  show aA (some (qp a p)) _ _=_
  cases qp a p
  ·rfl
  ·show (if (((k:Nat):Int)).natAbs.log2<1920 then _ else none)=_
   rw[if_pos (xR (by omega))]
   rfl) ps 0 none none (by omega) hp
 rw[e1]
 cases q:fu (qp a) 0 ps with
 | none=>
  rw[q] at e2
  obtain⟨y1,y2,rfl⟩:=e2
  rfl
 | some j=>
  rw[q] at e2
  obtain⟨ρ',rfl⟩:=e2
  rfl
theorem rL {m:Int}(h:m<1):dA [.int m]=some (.exc (bF "NoMany" [])):=by
 show dG (aA (some (decide (m<1))) _ _)=_
 rw[decide_eq_true h]
 rfl
theorem rN {m:Int}(h:1≤m):dA [.int m]=some (.ret .none):=by
 show dG (aA (some (decide (m<1))) _ _)=_
 rw[decide_eq_false (Int.not_lt.mpr h)]
 rfl
theorem HL {a f p x:PyData}(h:bU [a,f]=some (.exc x)):gg [a,f,p]=some (.exc x):=by
 show dG (iv [some a,some f,some p])=_
 unfold iv
 rw[f9 (x:=x) (ρ':=[some a,some f,some p])]
 ·rfl
 ·show bw _ (bU [a,f])=_
  rw[h]
  rfl
theorem HM {a f p x:PyData}(h:bU [a,f]=some (.ret .none))(h2:fL [f,p]=some (.exc x)):gg [a,f,p]=some (.exc x):=by
 show dG (iv [some a,some f,some p])=_
 unfold iv
 rw[jI (ρ':=[some a,some f,some p]) ?a1,f9 (x:=x) (ρ':=[some a,some f,some p]) ?a2]
 ·rfl
 case a1=>
  show bw _ (bU [a,f])=_
  rw[h]
  rfl
 case a2=>
  show bw _ (fL [f,p])=_
  rw[h2]
  rfl
theorem HN {a f p x:PyData}(h:bU [a,f]=some (.ret .none))(h2:fL [f,p]=some (.ret .none))(h3:iy [a,p]=some (.exc x)):gg [a,f,p]=some (.exc x):=by
 show dG (iv [some a,some f,some p])=_
 unfold iv
 rw[jI (ρ':=[some a,some f,some p]) ?a1,jI (ρ':=[some a,some f,some p]) ?a2,f9 (x:=x) (ρ':=[some a,some f,some p]) ?a3]
 ·rfl
 case a1=>
  show bw _ (bU [a,f])=_
  rw[h]
  rfl
 case a2=>
  show bw _ (fL [f,p])=_
  rw[h2]
  rfl
 case a3=>
  show bw _ (iy [a,p])=_
  rw[h3]
  rfl
theorem DD {a f r q x:PyData}(h:bU [a,f]=some (.exc x)):iz [a,f,r,q]=some (.exc x):=by
 show dG (mx [some a,some f,some r,some q,none,none,none,none])=_
 unfold mx
 rw[f9 (x:=x) (ρ':=[some a,some f,some r,some q,none,none,none,none])]
 ·rfl
 ·show bw _ (bU [a,f])=_
  rw[h]
  rfl
section
variable {a f x:PyData}{m:Int}
theorem Ew (h:m<1):gH [a,f,.int m]=some (.exc (bF "NoMany" [])):=by
 show dG (jO [some a,some f,some (.int m)])=_
 unfold jO
 rw[f9 (x:=bF "NoMany" []) (ρ':=[some a,some f,some (.int m)])]
 ·rfl
 ·show bw _ (dA [.int m])=_
  rw[rL h]
  rfl
theorem Ex (h:1≤m)(h2:bU [a,f]=some (.exc x)):gH [a,f,.int m]=some (.exc x):=by
 show dG (jO [some a,some f,some (.int m)])=_
 unfold jO
 rw[jI (ρ':=[some a,some f,some (.int m)]) ?a1,f9 (x:=x) (ρ':=[some a,some f,some (.int m)]) ?a2]
 ·rfl
 case a1=>
  show bw _ (dA [.int m])=_
  rw[rN h]
  rfl
 case a2=>
  show bw _ (bU [a,f])=_
  rw[h2]
  rfl
theorem G0 (h:m<1):gJ [a,f,.int m]=some (.exc (bF "NoMany" [])):=by
 show dG (jP [some a,some f,some (.int m),none,none,none])=_
 unfold jP
 rw[f9 (x:=bF "NoMany" []) (ρ':=[some a,some f,some (.int m),none,none,none])]
 ·rfl
 ·show bw _ (dA [.int m])=_
  rw[rL h]
  rfl
theorem G2 (h:1≤m)(h2:bU [a,f]=some (.exc x)):gJ [a,f,.int m]=some (.exc x):=by
 show dG (jP [some a,some f,some (.int m),none,none,none])=_
 unfold jP
 rw[jI (ρ':=[some a,some f,some (.int m),none,none,none]) ?a1,f9 (x:=x) (ρ':=[some a,some f,some (.int m),none,none,none]) ?a2]
 ·rfl
 case a1=>
  show bw _ (dA [.int m])=_
  rw[rN h]
  rfl
 case a2=>
  show bw _ (bU [a,f])=_
  rw[h2]
  rfl
theorem Jb (h:m<1):gK [a,f,.int m]=some (.exc (bF "NoMany" [])):=by
 show dG (jQ [some a,some f,some (.int m),none,none])=_
 unfold jQ
 rw[f9 (x:=bF "NoMany" []) (ρ':=[some a,some f,some (.int m),none,none])]
 ·rfl
 ·show bw _ (dA [.int m])=_
  rw[rL h]
  rfl
theorem Jc (h:1≤m)(h2:bU [a,f]=some (.exc x)):gK [a,f,.int m]=some (.exc x):=by
 show dG (jQ [some a,some f,some (.int m),none,none])=_
 unfold jQ
 rw[jI (ρ':=[some a,some f,some (.int m),none,none]) ?a1,f9 (x:=x) (ρ':=[some a,some f,some (.int m),none,none]) ?a2]
 ·rfl
 case a1=>
  show bw _ (dA [.int m])=_
  rw[rN h]
  rfl
 case a2=>
  show bw _ (bU [a,f])=_
  rw[h2]
  rfl
end
theorem G3 {xs:List Int}(hn:xs≠[]):fL [.list (xs.map .int),aX []]=some (.exc (bF "NoPosts" [])):=by
 have:0<xs.length:=List.length_pos_iff.mpr hn
 show dG (aA (cU (aw (km (.int ((xs.map PyData.int).length:Nat)) (.int 0))) (some true)) _ _)=_
 rw[rj,List.length_map,decide_eq_true (by omega)]
 rfl
theorem bG {F G:aa->Option aq}{ρ ρ':aa}(h:F ρ=some (.nx ρ')):av F G ρ=G ρ':=by
 unfold av
 rw[h]
 rfl
theorem zz {F G:aa->Option aq}{ρ:aa}{d:PyData}(h:F ρ=some (.rt d)):av F G ρ=some (.rt d):=by
 unfold av
 rw[h]
 rfl
theorem jE (xs:List PyData){k:Int}(h0:0≤k)(h:k<(xs.length:Nat)):∃ d∈xs,ay (.list xs) (.int k)=some d:=by
 obtain⟨j,rfl⟩:∃ j:Nat,k=(j:Nat):=⟨k.toNat,by omega⟩
 exact⟨xs[j]'(by omega),List.getElem_mem _,ka (List.getElem?_eq_getElem (by omega))⟩
def kt:RX->PyData
 | .ret _=>.none
 | .exc x=>x
def jt (w:Int)(a f p m:PyData):Option RX:=
 if w=0 then gg [a,f,p] else if w=1 then gH [a,f,m] else if w=2 then gJ [a,f,m] else if w=3 then gK [a,f,m] else iz [a,f,.tuple [.int 1,.int 1],.list []]
theorem nN {w k:Int}(a b:Option bf):aA (aw (ae (some (.int w)) (some (.int k)) aF)) a b=if w=k then a else b:=by
 rw[bh,g9,dv]
 by_cases h:w=k
 ·rw[if_pos h,h,beq_self_eq_true];rfl
 ·rw[if_neg h,beq_eq_false_iff_ne.mpr h];rfl
theorem BV (w:Int)(a f p m:PyData)(r:RX)(h:jt w a f p m=some r)(hx:∀ x,r=.exc x->aR.contains (lF x)=true):jb [.int w,a,f,p,m]=some (kt r):=by
 have q:kT [some (.int w),some a,some f,some p,some m,none,none]=some (.rt (kt r)):=by
  unfold kT
  rw[bG (ρ':=[some (.int w),some a,some f,some p,some m,some .none,none]) rfl]
  have e:(aA (aw (ae (some (.int w)) (some (.int 0)) aF)) (bw [some (.int w),some a,some f,some p,some m,some .none,none] (gg [a,f,p]))
    (aA (aw (ae (some (.int w)) (some (.int 1)) aF)) (bw [some (.int w),some a,some f,some p,some m,some .none,none] (gH [a,f,m]))
    (aA (aw (ae (some (.int w)) (some (.int 2)) aF)) (bw [some (.int w),some a,some f,some p,some m,some .none,none] (gJ [a,f,m]))
    (aA (aw (ae (some (.int w)) (some (.int 3)) aF)) (bw [some (.int w),some a,some f,some p,some m,some .none,none] (gK [a,f,m]))
    (bw [some (.int w),some a,some f,some p,some m,some .none,none] (iz [a,f,.tuple [.int 1,.int 1],.list []]))))))=bw [some (.int w),some a,some f,some p,some m,some .none,none] (some r):=by
   rw[nN,nN,nN,nN]
   unfold jt at h
   split
   ·rename_i c;rw[if_pos c] at h;rw[h]
   rename_i c;rw[if_neg c] at h
   split
   ·rename_i c;rw[if_pos c] at h;rw[h]
   rename_i c;rw[if_neg c] at h
   split
   ·rename_i c;rw[if_pos c] at h;rw[h]
   rename_i c;rw[if_neg c] at h
   split
   ·rename_i c;rw[if_pos c] at h;rw[h]
   rename_i c;rw[if_neg c] at h
   rw[h]
  cases r with
  | ret d=>
   rw[bG (ρ':=[some (.int w),some a,some f,some p,some m,some .none,none])]
   ·rfl
   ·refine (congrArg (kO 6 aR mO) e).trans ?_
    rfl
  | exc x=>
   rw[bG (ρ':=[some (.int w),some a,some f,some p,some m,some x,none])]
   ·rfl
   ·refine (congrArg (kO 6 aR mO) e).trans ?_
    show kO 6 aR mO (some (.ex x [some (.int w),some a,some f,some p,some m,some .none,none]))=_
    rw[J2 (ρ':=[some (.int w),some a,some f,some p,some m,some x,some x]) (hx x rfl) rfl]
    rfl
 show i3 (kT [some (.int w),some a,some f,some p,some m,none,none])=_
 rw[q]
 rfl
theorem B9:dW [bF "NoMany" []]=some (.str (Str.ofString "NoMany")):=by kernel_rfl
theorem Ca:dW [bF "NoPosts" []]=some (.str (Str.ofString "NoPosts")):=by kernel_rfl
theorem Cb:dW [bF "NoRing" []]=some (.str (Str.ofString "NoRing")):=by kernel_rfl
theorem B8 (f:Int):dW [bF "NoFolk" [.str "number",.int f]]=some (.str (Str.ofString "NoFolk")):=by kernel_rfl
theorem B_ (f:Int):dW [bF "NoPost" [.str "number",.int f]]=some (.str (Str.ofString "NoPost")):=by kernel_rfl
theorem C8 (f:Int):iS aR "number" (bF "NoFolk" [.str "number",.int f])=some (.int f):=by kernel_rfl
theorem C9 (f:Int):iS aR "number" (bF "NoPost" [.str "number",.int f])=some (.int f):=by kernel_rfl
theorem xu {α:Type}(q:α->Bool)(d:α):∀ (P:List α) (k:Nat),ixs q k P=((List.range P.length).filter fun i=>q (P.getD i d)).map (·+k)
 | [],k=>rfl
 | p::r,k=>by
  have ih:=xu q d r (k+1)
  have e:((List.range r.length).filter fun i=>q (r.getD i d)).map (·+(k+1))=(((List.range r.length).map Nat.succ).filter fun i=>q ((p::r).getD i d)).map (·+k):=by
   rw[List.filter_map,List.map_map]
   refine List.map_congr_left fun i _=>?_
   show i+(k+1)=i+1+k
   omega
  rw[ixs,List.length_cons,List.range_succ_eq_map,ih,e]
  cases hq:q p with
  | true=>rw[if_pos rfl,List.filter_cons_of_pos (by exact hq),List.map_cons,Nat.zero_add]
  | false=>rw[if_neg Bool.false_ne_true,List.filter_cons_of_neg (by show ¬ (q p=true);rw[hq];exact Bool.false_ne_true)]
def dN (ns:List Nat):PyData:=.list (ns.map fun i:Nat=>PyData.int (i:Nat))
theorem vV (ns:List Nat):dN ns=.list ((ns.map fun i:Nat=>(i:Int)).map .int):=by
 unfold dN
 rw[List.map_map]
 rfl
theorem Bs {a:Int}{xs:List Int}(hl:xs.length≤900):(cM (aO 0) k_ kY ((af (some (.int ((xs.map PyData.int).length:Nat))) (some [])).bind i5) [none,some (.list (xs.map .int)),some (.int a)]).map PyData.list=some (dN (ixs (qx a) 0 xs)):=by
 rw[List.length_map,nP,Option.bind_some,zj (n:=(xs.length:Nat)) (Int.natCast_nonneg _) (by omega),Int.toNat_natCast]
 have er:dR 0 xs.length=(List.range xs.length).map fun i:Nat=>PyData.int (i:Nat):=by
  unfold dR
  exact List.map_congr_left fun i _=>by rw[Int.zero_add]
 rw[er,iO (by rw[List.length_map,List.length_range];omega)]
 rw[vQ (S:=aO 0) (ft:=k_) (fe:=kY) (fun i:Nat=>PyData.int (i:Nat)) (fun i=>qx a (xs.getD i 0)) (fun ρ=>∃ c,ρ=[c,some (.list (xs.map .int)),some (.int a)]) (fun i=>i<xs.length) (fun i ρ hi ⟨c,e⟩=>⟨[some (.int (i:Nat)),some (.list (xs.map .int)),some (.int a)],by rw[e];rfl,⟨_,rfl⟩,?_,rfl⟩) (List.range xs.length) [none,some (.list (xs.map .int)),some (.int a)] ⟨_,rfl⟩ fun i hi=>List.mem_range.mp hi]
 ·rw[xu (qx a) 0 xs 0,show ((List.range xs.length).filter fun i=>qx a (xs.getD i 0)).map (·+0)=(List.range xs.length).filter fun i=>qx a (xs.getD i 0) from List.map_id' _]
  rfl
 ·show dr (aw (ae (ay (.list (xs.map .int)) (.int (i:Nat))) (some (.int 0)) bx)) (aw (ae (ay (.list (xs.map .int)) (.int (i:Nat))) (some (.int a)) eu))=_
  rw[show ay (.list (xs.map .int)) (.int (i:Nat))=some (.int (xs.getD i 0)) from ka (by rw[List.getElem?_map,List.getElem?_eq_getElem hi,List.getD_eq_getElem?_getD,List.getElem?_eq_getElem hi];rfl),bh,bh,f7,kj,dv,dv,oC]
  rfl
theorem wN {a:Int}(ha:bd a 100)(x0 x1 x3 x4 x5 x6 x7 x8 x9 x13 x14:Option PyData):∀ (ps:List (Int×Int)) (k:Nat) (A:List Nat) (x11 x12:Option PyData),k+ps.length<900->A.length≤k->(∀ p∈ps,PB p) ->
  ∃ y11 y12,cA (ey 2 (bM (aO 11) (bM (aO 12) dE))) mT (kg encP k ps) [x0,x1,some (.int a),x3,x4,x5,x6,x7,x8,x9,some (dN A),x11,x12,x13,x14]=some (.nx [x0,x1,some (.int a),x3,x4,x5,x6,x7,x8,x9,some (dN (A++ixs (qp a) k ps)),y11,y12,x13,x14])
 | [],k,A,x11,x12,_,_,_=>⟨x11,x12,by rw[show ixs (qp a) k []=[] from rfl,List.append_nil];rfl⟩
 | p::r,k,A,x11,x12,h,hA,hp=>by
  rw[List.length_cons] at h
  have hb:=hp p List.mem_cons_self
  obtain⟨y1,y2,q⟩:=wN ha x0 x1 x3 x4 x5 x6 x7 x8 x9 x13 x14 r (k+1) (if qp a p=true then A++[k] else A) (some (.int (k:Nat))) (some (encP p)) (by omega) (by split;rw[List.length_append,List.length_singleton];omega;omega) fun o ho=>hp o (List.mem_cons_of_mem _ ho)
  refine⟨y1,y2,?_⟩
  rw[kg,q0 (ρ1:=[x0,x1,some (.int a),x3,x4,x5,x6,x7,x8,x9,some (dN A),some (.int (k:Nat)),some (encP p),x13,x14]) (ρ2:=[x0,x1,some (.int a),x3,x4,x5,x6,x7,x8,x9,some (dN (if qp a p=true then A++[k] else A)),some (.int (k:Nat)),some (encP p),x13,x14]) rfl ?_,q]
  ·rw[ixs]
   cases qp a p
   ·rfl
   ·rw[if_pos rfl,if_pos rfl,List.append_assoc]
    rfl
  ·show aA (dr (aw (ae (ay (encP p) (.int 0)) (some (.int 0)) bx)) (aw (ae (ay (encP p) (.int 0)) (ae (some (.int a)) (ay (encP p) (.int 1)) bT) eu))) (if decide ((A.map fun i:Nat=>PyData.int (i:Nat)).length<1000)=true then some (aq.nx [x0,x1,some (.int a),x3,x4,x5,x6,x7,x8,x9,some (.list ((A.map fun i:Nat=>PyData.int (i:Nat))++[.int (k:Nat)])),some (.int (k:Nat)),some (encP p),x13,x14]) else none) _=_
   rw[show ay (encP p) (.int 0)=some (.int p.1) from rfl,show ay (encP p) (.int 1)=some (.int p.2) from rfl,bh,bh,di (ha.big (by decide)) (hb.t.big (by decide)),bh,f7,kj,dv,dv,oC]
   show aA (some (qp a p)) _ _=_
   cases qp a p
   ·rfl
   ·rw[if_pos rfl,if_pos (decide_eq_true (by rw[List.length_map];omega)),show dN (A++[k])=.list ((A.map fun i:Nat=>PyData.int (i:Nat))++[.int (k:Nat)]) from by unfold dN;rw[List.map_append];rfl]
    rfl
theorem rX (xs ys:List Int):cO (.list (xs.map .int)) (.list (ys.map .int))=some (.bool (!decide (xs=ys))):=by
 have h:=CC xs ys
 unfold aF at h
 unfold cO
 split at h
 ·rename_i hc
  rw[if_pos hc]
  exact congrArg (fun d=>match d with | some (PyData.bool b)=>some (PyData.bool !b) | _=>none) h
 ·cases h
theorem CB (ps:List (Int×Int)):aF (aX ps) (.list [])=some (.bool (decide (ps=[]))):=by
 have s:=zE ps
 have s0:SeqAt.shaped (.list [])=true:=zE []
 unfold aF
 rw[s,s0,Bool.and_self,if_pos rfl]
 cases ps with
 | nil=>rfl
 | cons p r=>rfl
def A7:aa->Option aq:=(fun ρ=>(gu (ae ((af ((ρ[14]?).join) (some [])).bind dW) (ae ((ρ[13]?).join) (some (.int 0)) ay) aF) (gD (ae (ae ((ρ[13]?).join) (some (.int 0)) ay) ((aC (af (some (.str (Str.ofString "NoFolk"))) (af (some (.str (Str.ofString "NoPost"))) (some [])))).map .list) e8) (ae (((ρ[14]?).join).bind (iS aR "number")) (ae ((ρ[13]?).join) (some (.int 1)) ay) aF))).map .rt)
def iH:aa->Option aq:=av (fun ρ=>aA (aw (ae (ae ((ρ[13]?).join) (some (.int 0)) ay) (some (.str (Str.ofString ""))) aF)) ((ae ((ρ[14]?).join) (some .none) og).map .rt) (some (.nx ρ))) A7
def nu:aa->Option aq:=av (fun ρ=>ax 14 ρ ((af ((ρ[8]?).join) (af ((ρ[2]?).join) (af ((ρ[3]?).join) (af ((ρ[6]?).join) (af ((ρ[7]?).join) (some [])))))).bind jb)) iH
def nt:aa->Option aq:=av (fun ρ=>aA (cU (aw (kd (some (.int 0)) ((ρ[8]?).join) bx bx (some (.int 4)))) (aw (ae ((ρ[7]?).join) (some (.int 1)) bx))) (ax 13 ρ ((aC (af (some (.str (Str.ofString "NoMany"))) (af (some (.int 0)) (some [])))).map .list)) (some (.nx ρ))) nu
def nr:aa->Option aq:=av (fun ρ=>aA (aw (ae ((ρ[2]?).join) (some (.int 1)) bx)) (ax 13 ρ ((aC (af (some (.str (Str.ofString "NoRing"))) (af (some (.int 0)) (some [])))).map .list)) (some (.nx ρ))) nt
def nq:aa->Option aq:=av (fun ρ=>aA (aw (ae ((ρ[9]?).join) ((aC (some [])).map .list) cO)) (ax 13 ρ ((aC (af (some (.str (Str.ofString "NoFolk"))) (af ((ae ((ρ[9]?).join) (some (.int 0)) ay).filter lf) (some [])))).map .list)) (some (.nx ρ))) nr
def nk:aa->Option aq:=av (fun ρ=>aA (cU (aw (ae ((ρ[8]?).join) (some (.int 0)) aF)) (cU (aw (ae ((ρ[6]?).join) ((aC (some [])).map .list) aF)) (aw (ae ((ρ[3]?).join) ((aC (some [])).map .list) cO)))) (ax 13 ρ ((aC (af (some (.str (Str.ofString "NoPosts"))) (af (some (.int 0)) (some [])))).map .list)) (some (.nx ρ))) nq
def nj:aa->Option aq:=av (fun ρ=>aA (cU (aw (ae ((ρ[8]?).join) (some (.int 0)) aF)) (aw (ae ((ρ[10]?).join) ((aC (some [])).map .list) cO))) (ax 13 ρ ((aC (af (some (.str (Str.ofString "NoPost"))) (af ((ae ((ρ[10]?).join) (some (.int 0)) ay).filter lf) (some [])))).map .list)) (some (.nx ρ))) nk
def nc:aa->Option aq:=av (fun ρ=>ax 13 ρ ((aC (af (some (.str (Str.ofString ""))) (af (some (.int 0)) (some [])))).map .list)) nj
def qt:aa->Option aq:=av (fun ρ=>ej (ey 2 (bM (aO 11) (bM (aO 12) dE))) mT ((((ρ[6]?).join).bind br).map dg) ρ) nc
def A4:aa->Option aq:=fun ρ=>((aC (some [])).map .list).bind fun d=>(qt (ρ.set 10 (some d))).bind mf
def qo:aa->Option aq:=av (fun ρ=>ax 9 ρ ((cM (aO 0) k_ kY ((af ((af ((ρ[3]?).join) (some [])).bind cw) (some [])).bind i5) (frees 1 [3,2] ρ)).map .list)) A4
def qm:aa->Option aq:=av (fun ρ=>ax 8 ρ (ae (ae ((ρ[1]?).join) (ae (some (.int 10)) (some (.int 8)) bI) aU) (some (.int 5)) aM)) qo
def uR:aa->Option aq:=av (fun ρ=>aA (aw (ae (ae (ae ((ρ[1]?).join) (ae (some (.int 10)) (some (.int 6)) bI) aU) (some (.int 4)) aM) (some (.int 1)) aF)) (ax 2 ρ (ae ((aC (af (some (.int 0)) (af (ae ((some (.int 1)).bind cg) ((ρ[4]?).join) dj) (some [])))).map .list) (ae (ae ((ρ[1]?).join) (ae (some (.int 10)) (some (.int 7)) bI) aU) (some (.int 2)) aM) ay)) (some (.nx ρ))) qm
def ql:aa->Option aq:=av (fun ρ=>ax 7 ρ (ae ((aC (af (ae (some (.int 1)) (ae (ae ((ρ[1]?).join) (some (.int 5000)) aU) (some (.int 3)) aM) bu) (af (ae (some (.int 1)) (ae (ae ((ρ[1]?).join) (some (.int 5000)) aU) (some (.int 3)) aM) bu) (af (some (.int 0)) (af (ae ((some (.int 1)).bind cg) ((ρ[4]?).join) dj) (some [])))))).map .list) (ae (ae ((ρ[1]?).join) (some (.int 20000)) aU) (some (.int 4)) aM) ay)) uR
def uQ:aa->Option aq:=av (fun ρ=>aA (aw (ae (ae (ae ((ρ[1]?).join) (some (.int 600)) aU) (some (.int 2)) aM) (some (.int 1)) aF)) ((av (fun ρ=>ax 6 ρ ((bZ ((ρ[6]?).join) ((aC (af (ae ((aC (af (cP .tuple (af ((ρ[2]?).join) (af (some (.int 1)) (some [])))) (af (cP .tuple (af ((some (.int 1)).bind cg) (af (some (.int 2)) (some [])))) (af (cP .tuple (af (ae ((ρ[2]?).join) ((ρ[4]?).join) bu) (af (some (.int 1)) (some [])))) (af (cP .tuple (af (ae ((some (.int 1)).bind cg) (ae (some (.int 3)) ((ρ[4]?).join) bT) dj) (af (some (.int 3)) (some [])))) (some [])))))).map .list) (ae (ae ((ρ[1]?).join) (some (.int 1200)) aU) (some (.int 4)) aM) ay) (some []))).map .list)).map .list)) (fun ρ=>ax 6 ρ ((bZ ((ρ[6]?).join) (ae ((aC (af ((aC (some [])).map .list) (af ((aC (af (cP .tuple (af ((some (.int 1)).bind cg) (af (some (.int 1)) (some [])))) (some []))).map .list) (some [])))).map .list) (ae (ae ((ρ[1]?).join) (some (.int 4800)) aU) (some (.int 2)) aM) ay)).map .list))) ρ) (some (.nx ρ))) ql
def qk:aa->Option aq:=av (fun ρ=>ax 6 ρ (ae ((aC (af ((aC (some [])).map .list) (af ((aC (af (cP .tuple (af (some (.int 0)) (af (some (.int 1)) (some [])))) (some []))).map .list) (af ((aC (af (cP .tuple (af (ae (ae (some (.int 2)) ((ρ[2]?).join) bT) (some (.int 1)) dj) (af (some (.int 2)) (some [])))) (some []))).map .list) (some []))))).map .list) (ae (ae ((ρ[1]?).join) (some (.int 200)) aU) (some (.int 3)) aM) ay)) uQ
def uP:aa->Option aq:=av (fun ρ=>aA (aw (ae (ae ((ρ[1]?).join) (some (.int 2)) aM) (some (.int 1)) aF)) ((av (fun ρ=>ax 5 ρ (ae (ae ((ρ[1]?).join) (some (.int 2)) aU) (ae ((af ((ρ[3]?).join) (some [])).bind cw) (some (.int 1)) bu) aM)) (av (fun ρ=>ax 3 ρ ((bZ ((bZ ((cutD ((ρ[3]?).join) (some none) ((((ρ[5]?).join).bind dh).map some)).map .list) ((aC (af (ae ((aC (af ((some (.int 1)).bind cg) (af ((ρ[2]?).join) (af (ae ((some (.int 1)).bind cg) ((ρ[4]?).join) dj) (af (ae ((ρ[2]?).join) ((ρ[4]?).join) bu) (some [])))))).map .list) (ae (ae ((ρ[1]?).join) (some (.int 20)) aU) (some (.int 4)) aM) ay) (some []))).map .list)).map .list) ((cutD ((ρ[3]?).join) ((((ρ[5]?).join).bind dh).map some) (some none)).map .list)).map .list)) (fun ρ=>ax 3 ρ ((bZ ((ρ[3]?).join) (ae ((aC (af ((aC (af ((some (.int 1)).bind cg) (some []))).map .list) (af ((aC (some [])).map .list) (some [])))).map .list) (ae (ae ((ρ[1]?).join) (some (.int 100)) aU) (some (.int 2)) aM) ay)).map .list)))) ρ) (some (.nx ρ))) qk
def uO:aa->Option aq:=av (fun ρ=>ax 4 ρ (ae (ae ((ρ[1]?).join) (ae (some (.int 10)) (some (.int 10)) bI) aU) (ae (some (.int 10)) (some (.int 20)) bI) aM)) uP
def uN:aa->Option aq:=av (fun ρ=>lA (lZ 2 (bM (aO 2) (bM (aO 3) dE))) ρ ((af ((ρ[0]?).join) (af (some (.int 0)) (af (some (.int 4)) (some [])))).bind iA)) uO
def uM:aa->Option aq:=av (fun ρ=>ax 1 ρ ((af ((af ((ρ[0]?).join) (af (some (.int 10)) (some []))).bind fM) (af (some (.int 0)) (some []))).bind ff)) uN
theorem Al:kU=uM:=rfl
def dd (s:Str)(i:Int):PyData:=.list [.str s,.int i]
theorem zX (w k:Int):aw (ae (some (.int w)) (some (.int k)) aF)=some (decide (w=k)):=by
 rw[bh,g9,dv]
 by_cases h:w=k
 ·rw[decide_eq_true h,h,beq_self_eq_true]
 ·rw[decide_eq_false h,beq_eq_false_iff_ne.mpr h]
section
variable (x0 x1 x4 x5 x11 x12:Option PyData)(a m w:Int)(xs:List Int)(ps:List (Int×Int))
def RR (d:Option PyData):aa:=[x0,x1,some (.int a),some (.list (xs.map .int)),x4,x5,some (aX ps),some (.int m),some (.int w),some (dN (ixs (qx a) 0 xs)),some (dN (ixs (qp a) 0 ps)),x11,x12,d,none]
theorem st2 (d:PyData):nj (RR x0 x1 x4 x5 x11 x12 a m w xs ps (some d))=nk (RR x0 x1 x4 x5 x11 x12 a m w xs ps (some (if w=0∧ixs (qp a) 0 ps≠[] then dd "NoPost" ((ixs (qp a) 0 ps).headD 0:Nat) else d))):=by
 unfold nj
 refine bG ?_
 show aA (cU (aw (ae (some (.int w)) (some (.int 0)) aF)) (aw (cO (dN (ixs (qp a) 0 ps)) (.list (([]:List Int).map .int))))) (ax 13 (RR x0 x1 x4 x5 x11 x12 a m w xs ps (some d)) ((aC (af (some (.str (Str.ofString "NoPost"))) (af ((ay (dN (ixs (qp a) 0 ps)) (.int 0)).filter lf) (some [])))).map .list)) _=_
 rw[zX,vV,rX,dv,nG]
 by_cases c1:w=0
 ·by_cases c2:ixs (qp a) 0 ps=[]
  ·rw[if_neg (fun z=>z.2 c2),c2,decide_eq_true c1]
   rfl
  ·rw[if_pos ⟨c1,c2⟩,decide_eq_true c1]
   unfold RR
   generalize ixs (qp a) 0 ps=st at c2
   cases st with
   | nil=>exact absurd rfl c2
   | cons s q=>
    rw[show ay (.list (((s::q).map fun i:Nat=>(i:Int)).map PyData.int)) (.int 0)=some (.int (s:Nat)) from ka (j:=0) rfl]
    rfl
 ·rw[if_neg (fun z=>c1 z.1),decide_eq_false c1]
  rfl
theorem st3 (d:PyData):nk (RR x0 x1 x4 x5 x11 x12 a m w xs ps (some d))=nq (RR x0 x1 x4 x5 x11 x12 a m w xs ps (some (if w=0∧ps=[]∧xs≠[] then dd "NoPosts" 0 else d))):=by
 unfold nk
 refine bG ?_
 show aA (cU (aw (ae (some (.int w)) (some (.int 0)) aF)) (cU (aw (aF (aX ps) (.list []))) (aw (cO (.list (xs.map .int)) (.list (([]:List Int).map .int)))))) (ax 13 (RR x0 x1 x4 x5 x11 x12 a m w xs ps (some d)) (some (dd "NoPosts" 0))) _=_
 rw[zX,rX,CB,dv,dv,nG,nG]
 by_cases c1:w=0
 ·by_cases c2:ps=[]
  ·by_cases c3:xs=[]
   ·rw[if_neg (fun z=>z.2.2 c3),c3,decide_eq_true c1,decide_eq_true c2]
    rfl
   ·rw[if_pos ⟨c1,c2,c3⟩,decide_eq_true c1,decide_eq_true c2,decide_eq_false c3]
    rfl
  ·rw[if_neg (fun z=>c2 z.2.1),decide_eq_true c1,decide_eq_false c2]
   rfl
 ·rw[if_neg (fun z=>c1 z.1),decide_eq_false c1]
  rfl
theorem st4 (d:PyData):nq (RR x0 x1 x4 x5 x11 x12 a m w xs ps (some d))=nr (RR x0 x1 x4 x5 x11 x12 a m w xs ps (some (if ixs (qx a) 0 xs≠[] then dd "NoFolk" ((ixs (qx a) 0 xs).headD 0:Nat) else d))):=by
 unfold nq
 refine bG ?_
 show aA (aw (cO (dN (ixs (qx a) 0 xs)) (.list (([]:List Int).map .int)))) (ax 13 (RR x0 x1 x4 x5 x11 x12 a m w xs ps (some d)) ((aC (af (some (.str (Str.ofString "NoFolk"))) (af ((ay (dN (ixs (qx a) 0 xs)) (.int 0)).filter lf) (some [])))).map .list)) _=_
 rw[vV,rX,dv]
 by_cases c:ixs (qx a) 0 xs=[]
 ·rw[if_neg (fun z=>z c),c]
  rfl
 ·rw[if_pos c]
  unfold RR
  generalize ixs (qx a) 0 xs=st at c
  cases st with
  | nil=>exact absurd rfl c
  | cons s q=>
   rw[show ay (.list (((s::q).map fun i:Nat=>(i:Int)).map PyData.int)) (.int 0)=some (.int (s:Nat)) from ka (j:=0) rfl]
   rfl
theorem st5 (d:PyData):nr (RR x0 x1 x4 x5 x11 x12 a m w xs ps (some d))=nt (RR x0 x1 x4 x5 x11 x12 a m w xs ps (some (if a<1 then dd "NoRing" 0 else d))):=by
 unfold nr
 refine bG ?_
 show aA (aw (bx (.int a) (.int 1))) (ax 13 (RR x0 x1 x4 x5 x11 x12 a m w xs ps (some d)) (some (dd "NoRing" 0))) _=_
 rw[f7,dv]
 by_cases c:a<1
 ·rw[if_pos c,decide_eq_true c]
  rfl
 ·rw[if_neg c,decide_eq_false c]
  rfl
theorem Jm (d:PyData):nt (RR x0 x1 x4 x5 x11 x12 a m w xs ps (some d))=nu (RR x0 x1 x4 x5 x11 x12 a m w xs ps (some (if (0<w∧w<4)∧m<1 then dd "NoMany" 0 else d))):=by
 unfold nt
 refine bG ?_
 have ec:aw (kd (some (.int 0)) (some (.int w)) bx bx (some (.int 4)))=some (decide (0<w)&&decide (w<4)):=by
  unfold kd
  rw[Option.bind_some,Option.bind_some,f7]
  cases decide ((0:Int)<w) <;> rfl
 show aA (cU (aw (kd (some (.int 0)) (some (.int w)) bx bx (some (.int 4)))) (aw (bx (.int m) (.int 1)))) (ax 13 (RR x0 x1 x4 x5 x11 x12 a m w xs ps (some d)) (some (dd "NoMany" 0))) _=_
 rw[ec,f7,dv,nG]
 by_cases c:(0<w∧w<4)∧m<1
 ·rw[if_pos c,decide_eq_true c.1.1,decide_eq_true c.1.2,decide_eq_true c.2]
  rfl
 ·rw[if_neg c,show ((decide (0<w)&&decide (w<4))&&decide (m<1))=false from ?_]
  ·rfl
  ·by_cases c1:0<w
   ·by_cases c2:w<4
    ·by_cases c3:m<1
     ·exact absurd ⟨⟨c1,c2⟩,c3⟩ c
     ·simp[c3]
    ·simp[c2]
   ·simp[c1]
def fT:PyData:=if (0<w∧w<4)∧m<1 then dd "NoMany" 0 else if a<1 then dd "NoRing" 0 else if ixs (qx a) 0 xs≠[] then dd "NoFolk" ((ixs (qx a) 0 xs).headD 0:Nat) else if w=0∧ps=[]∧xs≠[] then dd "NoPosts" 0 else if w=0∧ixs (qp a) 0 ps≠[] then dd "NoPost" ((ixs (qp a) 0 ps).headD 0:Nat) else dd "" 0
theorem Cv:nc (RR x0 x1 x4 x5 x11 x12 a m w xs ps none)=nu (RR x0 x1 x4 x5 x11 x12 a m w xs ps (some (fT a m w xs ps))):=by
 have e:nc (RR x0 x1 x4 x5 x11 x12 a m w xs ps none)=nj (RR x0 x1 x4 x5 x11 x12 a m w xs ps (some (dd "" 0))):=by
  unfold nc
  exact bG rfl
 rw[e,st2,st3,st4,st5,Jm]
 rfl
end
inductive gi:PyData->RX->Prop
 | ret (d:PyData):gi (dd "" 0) (.ret d)
 | many:gi (dd "NoMany" 0) (.exc (bF "NoMany" []))
 | posts:gi (dd "NoPosts" 0) (.exc (bF "NoPosts" []))
 | ring:gi (dd "NoRing" 0) (.exc (bF "NoRing" []))
 | folk (j:Nat):gi (dd "NoFolk" (j:Nat)) (.exc (ou j))
 | post (j:Nat):gi (dd "NoPost" (j:Nat)) (.exc (oy j))
theorem gi.caught {d:PyData}{q:RX}(h:gi d q):∀ x,q=.exc x->aR.contains (lF x)=true:=by
 intro x e
 cases h with
 | ret d=>cases e
 | many=>cases e;kernel_rfl
 | posts=>cases e;kernel_rfl
 | ring=>cases e;kernel_rfl
 | folk j=>cases e;kernel_rfl
 | post j=>cases e;kernel_rfl
theorem CN (x0 x1 x4 x5 x11 x12:Option PyData)(a m w:Int)(xs:List Int)(ps:List (Int×Int)){d:PyData}{q:RX}(h:gi d q) :
  iH [x0,x1,some (.int a),some (.list (xs.map .int)),x4,x5,some (aX ps),some (.int m),some (.int w),some (dN (ixs (qx a) 0 xs)),some (dN (ixs (qp a) 0 ps)),x11,x12,some d,some (kt q)]=some (.rt (.bool true)):=by
 cases h with
 | ret d=>
  unfold iH
  rw[zz (d:=.bool true)]
  show aA (aw (aF (.str (Str.ofString "")) (.str (Str.ofString "")))) (some (aq.rt (.bool true))) _=_
  rw[show aF (.str (Str.ofString "")) (.str (Str.ofString ""))=some (.bool true) from by kernel_rfl]
  rfl
 | many=>
  unfold iH
  rw[bG ?a0]
  case a0=>
   show aA (aw (aF (.str (Str.ofString "NoMany")) (.str (Str.ofString "")))) _ _=_
   rw[show aF (.str (Str.ofString "NoMany")) (.str (Str.ofString ""))=some (.bool false) from by kernel_rfl]
   rfl
  show (gu (ae (dW [bF "NoMany" []]) (some (.str (Str.ofString "NoMany"))) aF) (gD (e8 (.str (Str.ofString "NoMany")) (.list [.str (Str.ofString "NoFolk"),.str (Str.ofString "NoPost")])) _)).map aq.rt=_
  rw[B9,bh,show aF (.str (Str.ofString "NoMany")) (.str (Str.ofString "NoMany"))=some (.bool true) from by kernel_rfl,show e8 (.str (Str.ofString "NoMany")) (.list [.str (Str.ofString "NoFolk"),.str (Str.ofString "NoPost")])=some (.bool true) from by kernel_rfl]
  rfl
 | posts=>
  unfold iH
  rw[bG ?a0]
  case a0=>
   show aA (aw (aF (.str (Str.ofString "NoPosts")) (.str (Str.ofString "")))) _ _=_
   rw[show aF (.str (Str.ofString "NoPosts")) (.str (Str.ofString ""))=some (.bool false) from by kernel_rfl]
   rfl
  show (gu (ae (dW [bF "NoPosts" []]) (some (.str (Str.ofString "NoPosts"))) aF) (gD (e8 (.str (Str.ofString "NoPosts")) (.list [.str (Str.ofString "NoFolk"),.str (Str.ofString "NoPost")])) _)).map aq.rt=_
  rw[Ca,bh,show aF (.str (Str.ofString "NoPosts")) (.str (Str.ofString "NoPosts"))=some (.bool true) from by kernel_rfl,show e8 (.str (Str.ofString "NoPosts")) (.list [.str (Str.ofString "NoFolk"),.str (Str.ofString "NoPost")])=some (.bool true) from by kernel_rfl]
  rfl
 | ring=>
  unfold iH
  rw[bG ?a0]
  case a0=>
   show aA (aw (aF (.str (Str.ofString "NoRing")) (.str (Str.ofString "")))) _ _=_
   rw[show aF (.str (Str.ofString "NoRing")) (.str (Str.ofString ""))=some (.bool false) from by kernel_rfl]
   rfl
  show (gu (ae (dW [bF "NoRing" []]) (some (.str (Str.ofString "NoRing"))) aF) (gD (e8 (.str (Str.ofString "NoRing")) (.list [.str (Str.ofString "NoFolk"),.str (Str.ofString "NoPost")])) _)).map aq.rt=_
  rw[Cb,bh,show aF (.str (Str.ofString "NoRing")) (.str (Str.ofString "NoRing"))=some (.bool true) from by kernel_rfl,show e8 (.str (Str.ofString "NoRing")) (.list [.str (Str.ofString "NoFolk"),.str (Str.ofString "NoPost")])=some (.bool true) from by kernel_rfl]
  rfl
 | folk j=>
  unfold iH
  rw[bG ?a0]
  case a0=>
   show aA (aw (aF (.str (Str.ofString "NoFolk")) (.str (Str.ofString "")))) _ _=_
   rw[show aF (.str (Str.ofString "NoFolk")) (.str (Str.ofString ""))=some (.bool false) from by kernel_rfl]
   rfl
  show (gu (ae (dW [ou j]) (some (.str (Str.ofString "NoFolk"))) aF) (gD (e8 (.str (Str.ofString "NoFolk")) (.list [.str (Str.ofString "NoFolk"),.str (Str.ofString "NoPost")])) (ae (iS aR "number" (ou j)) (some (.int (j:Nat))) aF))).map aq.rt=_
  rw[B8,bh,show aF (.str (Str.ofString "NoFolk")) (.str (Str.ofString "NoFolk"))=some (.bool true) from by kernel_rfl,show e8 (.str (Str.ofString "NoFolk")) (.list [.str (Str.ofString "NoFolk"),.str (Str.ofString "NoPost")])=some (.bool false) from by kernel_rfl,C8,bh,g9,beq_self_eq_true]
  rfl
 | post j=>
  unfold iH
  rw[bG ?a0]
  case a0=>
   show aA (aw (aF (.str (Str.ofString "NoPost")) (.str (Str.ofString "")))) _ _=_
   rw[show aF (.str (Str.ofString "NoPost")) (.str (Str.ofString ""))=some (.bool false) from by kernel_rfl]
   rfl
  show (gu (ae (dW [oy j]) (some (.str (Str.ofString "NoPost"))) aF) (gD (e8 (.str (Str.ofString "NoPost")) (.list [.str (Str.ofString "NoFolk"),.str (Str.ofString "NoPost")])) (ae (iS aR "number" (oy j)) (some (.int (j:Nat))) aF))).map aq.rt=_
  rw[B_,bh,show aF (.str (Str.ofString "NoPost")) (.str (Str.ofString "NoPost"))=some (.bool true) from by kernel_rfl,show e8 (.str (Str.ofString "NoPost")) (.list [.str (Str.ofString "NoFolk"),.str (Str.ofString "NoPost")])=some (.bool false) from by kernel_rfl,C9,bh,g9,beq_self_eq_true]
  rfl
structure tZ (a m w:Int)(xs:List Int)(ps:List (Int×Int)):Prop where
 ab:bd a 100
 up:a≤10 ^ 20
 xl:xs.length≤6
 pl:ps.length≤6
 pb:∀ p∈ps,PB p
 w0:0≤w
 w4:w≤4
 m6:m≤6
theorem Hu {a x:Int}(h:qx a x=false):cj a x:=by
 unfold qx at h
 rw[Bool.or_eq_false_iff] at h
 exact⟨Int.not_lt.mp (of_decide_eq_false h.1),Int.not_le.mp (of_decide_eq_false h.2)⟩
theorem Ht {a:Int}{p:Int×Int}(b:PB p)(h:qp a p=false):gm a p:=by
 unfold qp at h
 rw[Bool.or_eq_false_iff] at h
 exact⟨⟨b.s.mono (by decide),b.t.mono (by decide)⟩,b.b,Int.not_lt.mp (of_decide_eq_false h.1),Int.not_le.mp (of_decide_eq_false h.2)⟩
theorem B6 {xs:List Int}{ps:List (Int×Int)}(h:xs=[]∨ps≠[]):fL [.list (xs.map .int),aX ps]=some (.ret .none):=yQ (vH (xs.map .int) (ps.map encP) (by
 rcases h with rfl | h
 ·exact .inl rfl
 ·exact .inr fun z=>h (List.map_eq_nil_iff.mp z)))
theorem DF {a:Int}{xs:List Int}(ha:1≤a)(hl:xs.length<64)(hX:∀ x∈xs,cj a x):∃ b:Bool,uw [.int a,.list (xs.map .int),.tuple [.int 1,.int 1],.list []]=some (.bool b):=by
 have q:∃ b:Bool,my [some (.int a),some (.list (xs.map .int)),some (.tuple [.int 1,.int 1]),some (.list []),none,none,none,none]=some (.rt (.bool b)):=by
  unfold my
  rw[bG (ρ':=[some (.int a),some (.list (xs.map .int)),some (.tuple [.int 1,.int 1]),some (.list []),none,none,none,none]) ?a1]
  case a1=>
   show eJ _ (gN [.int a,.list (xs.map .int)])=_
   rw[lD a xs ha hX]
   rfl
  rw[bG (ρ':=[some (.int a),some (.list (xs.map .int)),some (.tuple [.int 1,.int 1]),some (.list []),none,none,none,none]) rfl]
  rw[bG (ρ':=[some (.int a),some (.list (xs.map .int)),some (.tuple [.int 1,.int 1]),some (.list []),some (.list ((b9 xs).map .int)),none,none,none]) ?a2]
  case a2=>
   show ax 4 _ ((eR (.list (xs.map .int))).map PyData.list)=_
   rw[mj hl]
   rfl
  by_cases hn:xs=[]
  ·rw[yP.mpr hn]
   exact⟨true,rfl⟩
  ·refine⟨false,?_⟩
   rw[zz (d:=.bool false)]
   show aA (aw (cO (.int 0) (.int (((b9 xs).map PyData.int).length:Nat)))) _ _=_
   have:0<(b9 xs).length:=List.length_pos_iff.mpr fun z=>hn (yP.mp z)
   rw[rW,List.length_map,beq_eq_false_iff_ne.mpr (by omega)]
   rfl
 obtain⟨b,e⟩:=q
 refine⟨b,?_⟩
 show i3 (my [some (.int a),some (.list (xs.map .int)),some (.tuple [.int 1,.int 1]),some (.list []),none,none,none,none])=_
 rw[e]
 rfl
theorem CQ {a m w:Int}{xs:List Int}{ps:List (Int×Int)}(A:tZ a m w xs ps):∃ q,jt w (.int a) (.list (xs.map .int)) (aX ps) (.int m)=some q∧gi (fT a m w xs ps) q:=by
 have xl:=A.xl
 have pl:=A.pl
 have w0:=A.w0
 have w4:=A.w4
 have ck:=B5 (a:=a) (xs:=xs) (by omega)
 by_cases wm:(0<w∧w<4)∧m<1
 ·refine⟨.exc (bF "NoMany" []),?_,?_⟩
  ·unfold jt
   rw[if_neg (by omega)]
   split
   ·exact Ew wm.2
   split
   ·exact G0 wm.2
   split
   ·exact Jb wm.2
   ·omega
  ·unfold fT
   rw[if_pos wm]
   exact .many
 have hd:fT a m w xs ps=if a<1 then dd "NoRing" 0 else if ixs (qx a) 0 xs≠[] then dd "NoFolk" ((ixs (qx a) 0 xs).headD 0:Nat) else if w=0∧ps=[]∧xs≠[] then dd "NoPosts" 0 else if w=0∧ixs (qp a) 0 ps≠[] then dd "NoPost" ((ixs (qp a) 0 ps).headD 0:Nat) else dd "" 0:=by
  unfold fT
  rw[if_neg wm]
 have no:∀ x,bU [.int a,.list (xs.map .int)]=some (.exc x)->jt w (.int a) (.list (xs.map .int)) (aX ps) (.int m)=some (.exc x):=fun x h=>by
  unfold jt
  split
  ·exact HL h
  split
  ·exact Ex (by omega) h
  split
  ·exact G2 (by omega) h
  split
  ·exact Jc (by omega) h
  ·exact DD h
 by_cases ha:a<1
 ·rw[if_pos ha] at ck
  refine⟨_,no _ ck,?_⟩
  rw[hd,if_pos ha]
  exact .ring
 rw[if_neg ha] at ck
 have hR:dB a:=⟨by omega,A.up⟩
 have hf:=rC (qx a) xs 0
 cases hx:ixs (qx a) 0 xs with
 | cons j rest=>
  rw[hx] at hf
  rw[← hf] at ck
  refine⟨_,no _ ck,?_⟩
  rw[hd,if_neg ha,if_pos (by rw[hx];exact List.cons_ne_nil _ _),hx]
  exact .folk j
 | nil=>
  rw[hx] at hf
  rw[← hf] at ck
  have ck:bU [.int a,.list (xs.map .int)]=some (.ret .none):=ck
  have hX:∀ x∈xs,cj a x:=fun x h=>Hu (rg (qx a) xs 0 hf.symm x h)
  have hd2:fT a m w xs ps=if w=0∧ps=[]∧xs≠[] then dd "NoPosts" 0 else if w=0∧ixs (qp a) 0 ps≠[] then dd "NoPost" ((ixs (qp a) 0 ps).headD 0:Nat) else dd "" 0:=by
   rw[hd,if_neg ha,if_neg (fun z=>z hx)]
  unfold jt
  by_cases c0:w=0
  ·rw[if_pos c0]
   by_cases c:ps=[]∧xs≠[]
   ·rw[show fT a m w xs ps=dd "NoPosts" 0 from by rw[hd2,if_pos ⟨c0,c⟩],c.1]
    exact⟨_,HM ck (G3 c.2),.posts⟩
   have hn:xs=[]∨ps≠[]:=by
    by_cases z:xs=[]
    ·exact .inl z
    ·exact .inr fun y=>c ⟨y,z⟩
   have cp:=B4 A.ab (by omega) A.pb
   have hg:=rC (qp a) ps 0
   cases hp:ixs (qp a) 0 ps with
   | cons j rest=>
    rw[hp] at hg
    rw[← hg] at cp
    rw[show fT a m w xs ps=dd "NoPost" (j:Nat) from by rw[hd2,if_neg (fun z=>c z.2),if_pos ⟨c0,by rw[hp];exact List.cons_ne_nil _ _⟩,hp];rfl]
    exact⟨_,HN ck (B6 hn) cp,.post j⟩
   | nil=>
    rw[hp] at hg
    rw[show fT a m w xs ps=dd "" 0 from by rw[hd2,if_neg (fun z=>c z.2),if_neg (fun z=>z.2 hp)]]
    exact⟨_,Io (HZ a xs ps hR hX (fun p h=>Ht (A.pb p h) (rg (qp a) ps 0 hg.symm p h)) (by omega) (by omega) hn),.ret _⟩
  rw[if_neg c0,show fT a m w xs ps=dd "" 0 from by rw[hd2,if_neg (fun z=>c0 z.1),if_neg (fun z=>c0 z.1)]]
  have up:=A.up
  by_cases c1:w=1
  ·rw[if_pos c1]
   obtain⟨l,e⟩:=H_ (a:=a) (many:=m) (by omega) (by omega) hX (by omega) (by omega)
   exact⟨_,Ia e,.ret _⟩
  rw[if_neg c1]
  by_cases c2:w=2
  ·rw[if_pos c2]
   obtain⟨l,B,e⟩:=Ij (a:=a) (many:=m) (by omega) (by omega) hX (by omega) (by omega)
   exact⟨_,Ik e,.ret _⟩
  rw[if_neg c2]
  by_cases c3:w=3
  ·rw[if_pos c3]
   obtain⟨l,e⟩:=Ip (a:=a) (many:=m) (by omega) (by omega) hX (by omega) (by omega) A.m6
   exact⟨_,Iq e,.ret _⟩
  rw[if_neg c3]
  obtain⟨b,e⟩:=DF (a:=a) (xs:=xs) (by omega) (by omega) hX
  exact⟨_,HW e,.ret _⟩
theorem Cm (ds:List PyData)(k:Nat):cutD (some (.list ds)) (some none) (some (some ((k:Nat):Int)))=some (ds.take k):=by
 have e1:HT.sIx ds.length 0 none=0:=rfl
 have e2:HT.sIx ds.length ds.length (some (k:Nat))=min k ds.length:=HT.sIx_nat _ _ k
 show some (ke ds none (some (k:Nat)))=_
 unfold ke
 rw[e1,e2,List.drop_zero,Nat.sub_zero]
 congr 1
 rw[List.take_eq_take_iff]
 omega
theorem Cn (ds:List PyData)(k:Nat)(h:k≤ds.length):cutD (some (.list ds)) (some (some ((k:Nat):Int))) (some none)=some (ds.drop k):=by
 have e1:HT.sIx ds.length 0 (some (k:Nat))=min k ds.length:=HT.sIx_nat _ _ k
 have e2:HT.sIx ds.length ds.length none=ds.length:=rfl
 show some (ke ds (some (k:Nat)) none)=_
 unfold ke
 rw[e1,e2,Nat.min_eq_left h]
 congr 1
 rw[List.take_of_length_le (by rw[List.length_drop];exact Nat.le_refl _)]
theorem Er (x0 x1 x4 x5:Option PyData){a m w:Int}{xs:List Int}{ps:List (Int×Int)}(A:tZ a m w xs ps):qo [x0,x1,some (.int a),some (.list (xs.map .int)),x4,x5,some (aX ps),some (.int m),some (.int w),none,none,none,none,none,none]=some (.rt (.bool true)):=by
 have xl:=A.xl
 have pl:=A.pl
 unfold qo
 rw[bG (ρ':=[x0,x1,some (.int a),some (.list (xs.map .int)),x4,x5,some (aX ps),some (.int m),some (.int w),some (dN (ixs (qx a) 0 xs)),none,none,none,none,none]) ?a9]
 case a9=>
  show ax 9 _ ((cM (aO 0) k_ kY ((af (some (.int ((xs.map PyData.int).length:Nat))) (some [])).bind i5) [none,some (.list (xs.map .int)),some (.int a)]).map PyData.list)=_
  rw[Bs (by omega)]
  rfl
 show (qt [x0,x1,some (.int a),some (.list (xs.map .int)),x4,x5,some (aX ps),some (.int m),some (.int w),some (dN (ixs (qx a) 0 xs)),some (dN []),none,none,none,none]).bind mf=_
 obtain⟨y11,y12,e⟩:=wN A.ab x0 x1 (some (.list (xs.map .int))) x4 x5 (some (aX ps)) (some (.int m)) (some (.int w)) (some (dN (ixs (qx a) 0 xs))) none none ps 0 [] none none (by omega) (by exact Nat.le_refl _) A.pb
 unfold qt
 rw[bG (ρ':=RR x0 x1 x4 x5 y11 y12 a m w xs ps none) ?a10]
 case a10=>
  show cA (ey 2 (bM (aO 11) (bM (aO 12) dE))) mT (dg (ps.map encP)) _=_
  rw[qV]
  exact e
 rw[Cv]
 obtain⟨q,q1,q2⟩:=CQ A
 have cq:=BV w (.int a) (.list (xs.map .int)) (aX ps) (.int m) q q1 q2.caught
 unfold nu
 rw[bG (ρ':=[x0,x1,some (.int a),some (.list (xs.map .int)),x4,x5,some (aX ps),some (.int m),some (.int w),some (dN (ixs (qx a) 0 xs)),some (dN (ixs (qp a) 0 ps)),y11,y12,some (fT a m w xs ps),some (kt q)]) ?a17]
 case a17=>
  show ax 14 _ (jb [.int w,.int a,.list (xs.map .int),aX ps,.int m])=_
  rw[cq]
  rfl
 rw[CN x0 x1 x4 x5 y11 y12 a m w xs ps q2]
 rfl
theorem xE (x0 x5:Option PyData){a m h f:Int}(hh:0≤h)(ha:bd a 100)(up:a≤10 ^ 20){xs:List Int}{ps:List (Int×Int)}(xl:xs.length≤6)(pl:ps.length≤6)(pb:∀ p∈ps,PB p)(m6:m≤6):qm [x0,some (.int h),some (.int a),some (.list (xs.map .int)),some (.int f),x5,some (aX ps),some (.int m),none,none,none,none,none,none,none]=some (.rt (.bool true)):=by
 have w0:0≤h / 10 ^ 8 % 5:=Int.emod_nonneg _ (by decide)
 have w5:h / 10 ^ 8 % 5<5:=Int.emod_lt_of_pos _ (by decide)
 unfold qm
 rw[bG (ρ':=[x0,some (.int h),some (.int a),some (.list (xs.map .int)),some (.int f),x5,some (aX ps),some (.int m),some (.int (h / 10 ^ 8 % 5)),none,none,none,none,none,none]) ?a8]
 case a8=>
  show ax 8 _ (ae (aU (.int h) (.int (10 ^ 8))) (some (.int 5)) aM)=_
  rw[cY (by decide) rfl,bh,b8 (by decide)]
  rfl
 exact Er x0 _ _ x5 ⟨ha,up,xl,pl,pb,w0,by omega,m6⟩
theorem xC (x0 x5:Option PyData){a h f:Int}(hh:0≤h)(f0:0≤f)(f1:f<10 ^ 20)(hR:dB a){xs:List Int}{ps:List (Int×Int)}(xl:xs.length≤6)(pl:ps.length≤6)(pb:∀ p∈ps,PB p):ql [x0,some (.int h),some (.int a),some (.list (xs.map .int)),some (.int f),x5,some (aX ps),none,none,none,none,none,none,none,none]=some (.rt (.bool true)):=by
 obtain⟨ma,hma,ema⟩:=jE ([1+h / 5000 % 3,1+h / 5000 % 3,0,-1 - f].map .int) (k:=h / 20000 % 4) (Int.emod_nonneg _ (by decide)) (Int.emod_lt_of_pos _ (by decide))
 obtain⟨m,hm,rfl⟩:=List.mem_map.mp hma
 have m6:m≤6:=by
  have:=Int.emod_lt_of_pos (h / 5000) (show (0:Int)<3 by decide)
  simp only[List.mem_cons,List.not_mem_nil,or_false] at hm
  omega
 unfold ql
 rw[bG (ρ':=[x0,some (.int h),some (.int a),some (.list (xs.map .int)),some (.int f),x5,some (aX ps),some (.int m),none,none,none,none,none,none,none]) ?a6]
 case a6=>
  show ax 7 _ (ae ((aC (af (ae (some (.int 1)) (ae (aU (.int h) (.int 5000)) (some (.int 3)) aM) bu) (af (ae (some (.int 1)) (ae (aU (.int h) (.int 5000)) (some (.int 3)) aM) bu) (some [.int 0,.int (-1 - f)])))).map .list) (ae (aU (.int h) (.int 20000)) (some (.int 4)) aM) ay)=_
  rw[cY (by decide) rfl,bh,b8 (by decide),bh,nF,cY (by decide) rfl,bh,b8 (by decide)]
  show ax 7 _ (ay (.list ([1+h / 5000 % 3,1+h / 5000 % 3,0,-1 - f].map .int)) (.int (h / 20000 % 4)))=_
  rw[ema]
  rfl
 unfold uR
 have et:aw (ae (ae (ae (some (.int h)) (ae (some (.int 10)) (some (.int 6)) bI) aU) (some (.int 4)) aM) (some (.int 1)) aF)=some (h / 10 ^ 6 % 4==1):=by
  show aw (ae (ae (aU (.int h) (.int (10 ^ 6))) (some (.int 4)) aM) (some (.int 1)) aF)=_
  rw[cY (by decide) rfl,bh,b8 (by decide),bh,g9]
  rfl
 cases c:(h / 10 ^ 6 % 4==1) with
 | false=>
  rw[c] at et
  rw[bG (ρ':=[x0,some (.int h),some (.int a),some (.list (xs.map .int)),some (.int f),x5,some (aX ps),some (.int m),none,none,none,none,none,none,none]) ?a7]
  case a7=>
   show aA (aw (ae (ae (ae (some (.int h)) (ae (some (.int 10)) (some (.int 6)) bI) aU) (some (.int 4)) aM) (some (.int 1)) aF)) _ _=_
   rw[et]
   rfl
  exact xE x0 x5 hh hR.bd hR.u xl pl pb m6
 | true=>
  rw[c] at et
  obtain⟨a2,ha2,ea2⟩:=jE ([0,-1 - f].map .int) (k:=h / 10 ^ 7 % 2) (Int.emod_nonneg _ (by decide)) (Int.emod_lt_of_pos _ (by decide))
  obtain⟨b,hb,rfl⟩:=List.mem_map.mp ha2
  have hbb:-(10 ^ 21)≤b∧b≤0:=by
   rcases List.mem_cons.mp hb with rfl | hb
   ·exact⟨by decide,by decide⟩
   ·rw[List.mem_singleton.mp hb]
    omega
  rw[bG (ρ':=[x0,some (.int h),some (.int b),some (.list (xs.map .int)),some (.int f),x5,some (aX ps),some (.int m),none,none,none,none,none,none,none]) ?a7]
  case a7=>
   show aA (aw (ae (ae (ae (some (.int h)) (ae (some (.int 10)) (some (.int 6)) bI) aU) (some (.int 4)) aM) (some (.int 1)) aF)) (ax 2 _ (ae (some (.list ([0,-1 - f].map .int))) (ae (aU (.int h) (.int (10 ^ 7))) (some (.int 2)) aM) ay)) _=_
   rw[et,cY (by decide) rfl,bh,b8 (by decide),bh,ea2]
   rfl
  exact xE x0 x5 hh (cL (by omega) (by omega)) (by omega) xl pl pb m6
theorem xD (x0 x5:Option PyData){a h f:Int}(hh:0≤h)(f0:0≤f)(f1:f<10 ^ 20)(hR:dB a){xs:List Int}(xl:xs.length≤6):qk [x0,some (.int h),some (.int a),some (.list (xs.map .int)),some (.int f),x5,none,none,none,none,none,none,none,none,none]=some (.rt (.bool true)):=by
 have al:=hR.l
 have au:=hR.u
 have b1:bd (1:Int) 100:=cL (by decide) (by decide)
 have b2:bd (2:Int) 100:=cL (by decide) (by decide)
 have b3:bd (3:Int) 100:=cL (by decide) (by decide)
 have bm:bT (.int 2) (.int a)=some (.int (2*a)):=di (b2.big (by decide)) (hR.bd.big (by decide))
 have bm3:bT (.int 3) (.int f)=some (.int (3*f)):=di (b3.big (by decide)) (bd.big (n:=100) (cL (by omega) (by omega)) (by decide))
 obtain⟨po,hpo,epo⟩:=jE [aX [],aX [(0,1)],aX [(2*a - 1,2)]] (k:=h / 200 % 3) (Int.emod_nonneg _ (by decide)) (Int.emod_lt_of_pos _ (by decide))
 obtain⟨ps,rfl,pl,pb⟩:∃ ps,po=aX ps∧ps.length≤1∧∀ p∈ps,PB p:=by
  rcases List.mem_cons.mp hpo with rfl | hpo
  ·exact⟨[],rfl,Nat.zero_le _,fun p hp=>by cases hp⟩
  rcases List.mem_cons.mp hpo with rfl | hpo
  ·exact⟨_,rfl,Nat.le_refl _,fun p hp=>by rw[List.mem_singleton.mp hp];exact⟨(show (0:Int)<1 by decide),cL (a:=0) (by decide) (by decide),b1⟩⟩
  ·rw[List.mem_singleton.mp hpo]
   exact⟨_,rfl,Nat.le_refl _,fun p hp=>by rw[List.mem_singleton.mp hp];exact⟨(show (0:Int)<2 by decide),cL (a:=2*a - 1) (by omega) (by omega),b2⟩⟩
 unfold qk
 rw[bG (ρ':=[x0,some (.int h),some (.int a),some (.list (xs.map .int)),some (.int f),x5,some (aX ps),none,none,none,none,none,none,none,none]) ?a4]
 case a4=>
  show ax 6 _ (ae ((aC (af (some (aX [])) (af (some (aX [(0,1)])) (af ((aC (af (cP .tuple (af (ae (bT (.int 2) (.int a)) (some (.int 1)) dj) (some [.int 2]))) (some []))).map .list) (some []))))).map .list) (ae (aU (.int h) (.int 200)) (some (.int 3)) aM) ay)=_
  rw[bm,bh,o8,cY (by decide) rfl,bh,b8 (by decide)]
  show ax 6 _ (ay (.list [aX [],aX [(0,1)],aX [(2*a - 1,2)]]) (.int (h / 200 % 3)))=_
  rw[epo]
  rfl
 unfold uQ
 have et:aw (ae (ae (ae (some (.int h)) (some (.int 600)) aU) (some (.int 2)) aM) (some (.int 1)) aF)=some (h / 600 % 2==1):=by
  rw[bh,cY (by decide) rfl,bh,b8 (by decide),bh,g9]
  rfl
 cases c:(h / 600 % 2==1) with
 | false=>
  rw[c] at et
  rw[bG (ρ':=[x0,some (.int h),some (.int a),some (.list (xs.map .int)),some (.int f),x5,some (aX ps),none,none,none,none,none,none,none,none]) ?a5]
  case a5=>
   show aA (aw (ae (ae (ae (some (.int h)) (some (.int 600)) aU) (some (.int 2)) aM) (some (.int 1)) aF)) _ _=_
   rw[et]
   rfl
  exact xC x0 x5 hh f0 f1 hR xl (by omega) pb
 | true=>
  rw[c] at et
  obtain⟨e1,he1,ee1⟩:=jE ([(a,1),(-1,2),(a+f,1),(-1 - 3*f,3)].map encP) (k:=h / 1200 % 4) (Int.emod_nonneg _ (by decide)) (Int.emod_lt_of_pos _ (by decide))
  obtain⟨p1,hp1,rfl⟩:=List.mem_map.mp he1
  have pb1:PB p1:=by
   rcases List.mem_cons.mp hp1 with rfl | hp1
   ·exact⟨(show (0:Int)<1 by decide),hR.bd,b1⟩
   rcases List.mem_cons.mp hp1 with rfl | hp1
   ·exact⟨(show (0:Int)<2 by decide),cL (a:=-1) (by decide) (by decide),b2⟩
   rcases List.mem_cons.mp hp1 with rfl | hp1
   ·exact⟨(show (0:Int)<1 by decide),cL (a:=a+f) (by omega) (by omega),b1⟩
   rw[List.mem_singleton.mp hp1]
   exact⟨(show (0:Int)<3 by decide),cL (a:=-1 - 3*f) (by omega) (by omega),b3⟩
  obtain⟨e2,he2,ee2⟩:=jE ([[],[(-1,1)]].map aX) (k:=h / 4800 % 2) (Int.emod_nonneg _ (by decide)) (Int.emod_lt_of_pos _ (by decide))
  obtain⟨q2,hq2,rfl⟩:=List.mem_map.mp he2
  have pq2:q2.length≤1∧∀ p∈q2,PB p:=by
   rcases List.mem_cons.mp hq2 with rfl | hq2
   ·exact⟨Nat.zero_le _,fun p hp=>by cases hp⟩
   rw[List.mem_singleton.mp hq2]
   exact⟨Nat.le_refl _,fun p hp=>by rw[List.mem_singleton.mp hp];exact⟨(show (0:Int)<1 by decide),cL (a:=-1) (by decide) (by decide),b1⟩⟩
  rw[bG (ρ':=[x0,some (.int h),some (.int a),some (.list (xs.map .int)),some (.int f),x5,some (aX (ps++[p1]++q2)),none,none,none,none,none,none,none,none]) ?a5]
  case a5=>
   show aA (aw (ae (ae (ae (some (.int h)) (some (.int 600)) aU) (some (.int 2)) aM) (some (.int 1)) aF)) (av _ _ [x0,some (.int h),some (.int a),some (.list (xs.map .int)),some (.int f),x5,some (aX ps),none,none,none,none,none,none,none,none]) _=_
   rw[et,nO]
   rw[bG (ρ':=[x0,some (.int h),some (.int a),some (.list (xs.map .int)),some (.int f),x5,some (aX (ps++[p1])),none,none,none,none,none,none,none,none]) ?b1]
   case b1=>
    show ax 6 _ ((bZ (some (aX ps)) ((aC (af (ae ((aC (af (some (encP (a,1))) (af (some (encP (-1,2))) (af (some (encP (a+f,1))) (af (cP .tuple (af (ae (some (.int (-1))) (bT (.int 3) (.int f)) dj) (some [.int 3]))) (some [])))))).map .list) (ae (aU (.int h) (.int 1200)) (some (.int 4)) aM) ay) (some []))).map .list)).map .list)=_
    rw[bm3,bh,o8,cY (by decide) rfl,bh,b8 (by decide)]
    show ax 6 _ ((bZ (some (.list (ps.map encP))) ((aC (af (ay (.list ([(a,1),(-1,2),(a+f,1),(-1 - 3*f,3)].map encP)) (.int (h / 1200 % 4))) (some []))).map .list)).map .list)=_
    rw[ee1]
    show ax 6 _ ((bZ (some (.list (ps.map encP))) (some (.list [encP p1]))).map .list)=_
    rw[lC (by rw[List.length_append,List.length_map,List.length_singleton];omega),show ps.map encP++[encP p1]=(ps++[p1]).map encP from by rw[List.map_append];rfl]
    rfl
   show ax 6 _ ((bZ (some (.list ((ps++[p1]).map encP))) (ae (some (.list ([[],[(-1,1)]].map aX))) (ae (aU (.int h) (.int 4800)) (some (.int 2)) aM) ay)).map .list)=_
   rw[cY (by decide) rfl,bh,b8 (by decide),bh,ee2]
   show ax 6 _ ((bZ (some (.list ((ps++[p1]).map encP))) (some (.list (q2.map encP)))).map .list)=_
   rw[lC (by rw[List.length_append,List.length_map,List.length_map,List.length_append,List.length_singleton];have:=pq2.1;omega),← List.map_append]
   rfl
  refine xC x0 x5 hh f0 f1 hR xl (by rw[List.length_append,List.length_append,List.length_singleton];have:=pq2.1;omega) fun p hp=>?_
  rcases List.mem_append.mp hp with z | z
  ·rcases List.mem_append.mp z with z | z
   ·exact pb p z
   ·rw[List.mem_singleton.mp z];exact pb1
  ·exact pq2.2 p z
theorem main (ns:List Int)(hl:ns.length≤63):k6 [.list (ns.map .int)]=some (.bool true):=by
 obtain⟨h,hh,eh⟩:=rS (ns.getD 10 0) 0 (by unfold bd;decide)
 obtain⟨a,xs,hR,hxl,hX,eP⟩:=HX ns 0 4 (by decide) (by unfold bd;decide) (by decide) (by decide)
 have xl:xs.length≤4:=by omega
 have f0:0≤h / 10 ^ 10 % 10 ^ 20:=Int.emod_nonneg _ (by decide)
 have f1:h / 10 ^ 10 % 10 ^ 20<10 ^ 20:=Int.emod_lt_of_pos _ (by decide)
 generalize hfar:h / 10 ^ 10 % 10 ^ 20=f at f0 f1
 have al:=hR.l
 have q:kU [some (.list (ns.map .int)),none,none,none,none,none,none,none,none,none,none,none,none,none,none]=some (.rt (.bool true)):=by
  rw[Al]
  unfold uM
  rw[bG (ρ':=[some (.list (ns.map .int)),some (.int h),none,none,none,none,none,none,none,none,none,none,none,none,none]) ?s0]
  case s0=>
   show ax 1 _ ((af (fM [.list (ns.map .int),.int 10]) (some [.int 0])).bind ff)=_
   rw[qO ns 10 (by decide),nP,Option.bind_some]
   show ax 1 _ (ff [.int (ns.getD 10 0),.int 0])=_
   rw[eh]
   rfl
  unfold uN
  rw[bG (ρ':=[some (.list (ns.map .int)),some (.int h),some (.int a),some (.list (xs.map .int)),none,none,none,none,none,none,none,none,none,none,none]) ?s1]
  case s1=>
   show lA (lZ 2 (bM (aO 2) (bM (aO 3) dE))) _ (iA [.list (ns.map .int),.int 0,.int 4])=_
   rw[eP]
   rfl
  unfold uO
  rw[bG (ρ':=[some (.list (ns.map .int)),some (.int h),some (.int a),some (.list (xs.map .int)),some (.int f),none,none,none,none,none,none,none,none,none,none]) ?s2]
  case s2=>
   show ax 4 _ (ae (aU (.int h) (.int (10 ^ 10))) (some (.int (10 ^ 20))) aM)=_
   rw[cY (by decide) rfl,bh,b8 (by decide),hfar]
   rfl
  unfold uP
  have et:aw (ae (ae (some (.int h)) (some (.int 2)) aM) (some (.int 1)) aF)=some (h % 2==1):=by
   rw[bh,b8 (by decide),bh,g9]
   rfl
  cases c:(h % 2==1) with
  | false=>
   rw[c] at et
   rw[bG (ρ':=[some (.list (ns.map .int)),some (.int h),some (.int a),some (.list (xs.map .int)),some (.int f),none,none,none,none,none,none,none,none,none,none]) ?s3]
   case s3=>
    show aA (aw (ae (ae (some (.int h)) (some (.int 2)) aM) (some (.int 1)) aF)) _ _=_
    rw[et]
    rfl
   exact xD _ _ hh f0 f1 hR (by omega)
  | true=>
   rw[c] at et
   have hm0:0≤h / 2 % ((xs.length:Nat)+1):=Int.emod_nonneg _ (by omega)
   have hm1:h / 2 % ((xs.length:Nat)+1)<(xs.length:Nat)+1:=Int.emod_lt_of_pos _ (by omega)
   obtain⟨k,ek⟩:∃ k:Nat,h / 2 % ((xs.length:Nat)+1)=(k:Nat):=⟨(h / 2 % ((xs.length:Nat)+1)).toNat,by omega⟩
   have hk:k≤xs.length:=by omega
   obtain⟨e1,he1,ee1⟩:=jE ([-1,a,-1 - f,a+f].map .int) (k:=h / 20 % 4) (Int.emod_nonneg _ (by decide)) (Int.emod_lt_of_pos _ (by decide))
   obtain⟨z1,_,rfl⟩:=List.mem_map.mp he1
   obtain⟨e2,he2,ee2⟩:=jE ([[-1],[]].map fun zs:List Int=>PyData.list (zs.map .int)) (k:=h / 100 % 2) (Int.emod_nonneg _ (by decide)) (Int.emod_lt_of_pos _ (by decide))
   obtain⟨zs,hzs,rfl⟩:=List.mem_map.mp he2
   have zl:zs.length≤1:=by
    rcases List.mem_cons.mp hzs with rfl | hzs
    ·exact Nat.le_refl _
    ·rw[List.mem_singleton.mp hzs];exact Nat.zero_le _
   rw[bG (ρ':=[some (.list (ns.map .int)),some (.int h),some (.int a),some (.list ((xs.take k++[z1]++xs.drop k++zs).map .int)),some (.int f),some (.int (k:Nat)),none,none,none,none,none,none,none,none,none]) ?s3]
   case s3=>
    show aA (aw (ae (ae (some (.int h)) (some (.int 2)) aM) (some (.int 1)) aF)) (av _ _ [some (.list (ns.map .int)),some (.int h),some (.int a),some (.list (xs.map .int)),some (.int f),none,none,none,none,none,none,none,none,none,none]) _=_
    rw[et,nO]
    rw[bG (ρ':=[some (.list (ns.map .int)),some (.int h),some (.int a),some (.list (xs.map .int)),some (.int f),some (.int (k:Nat)),none,none,none,none,none,none,none,none,none]) ?b0]
    case b0=>
     show ax 5 _ (ae (aU (.int h) (.int 2)) (ae (some (.int ((xs.map PyData.int).length:Nat))) (some (.int 1)) bu) aM)=_
     rw[cY (by decide) rfl,bh,nF,bh,List.length_map,b8 (by omega),ek]
     rfl
    rw[bG (ρ':=[some (.list (ns.map .int)),some (.int h),some (.int a),some (.list ((xs.take k++[z1]++xs.drop k).map .int)),some (.int f),some (.int (k:Nat)),none,none,none,none,none,none,none,none,none]) ?b1]
    case b1=>
     show ax 3 _ ((bZ ((bZ ((cutD (some (.list (xs.map .int))) (some none) (some (some ((k:Nat):Int)))).map PyData.list) ((aC (af (ae (some (.list ([-1,a,-1 - f,a+f].map .int))) (ae (aU (.int h) (.int 20)) (some (.int 4)) aM) ay) (some []))).map .list)).map .list) ((cutD (some (.list (xs.map .int))) (some (some ((k:Nat):Int))) (some none)).map .list)).map .list)=_
     rw[Cm,Cn _ k (by rw[List.length_map];exact hk),cY (by decide) rfl,bh,b8 (by decide),bh,ee1]
     show ax 3 _ ((bZ ((bZ (some (.list ((xs.map PyData.int).take k))) (some (.list [PyData.int z1]))).map PyData.list) (some (.list ((xs.map PyData.int).drop k)))).map PyData.list)=_
     rw[lC (by rw[List.length_append,List.length_take,List.length_map,List.length_singleton];omega),Option.map_some,lC (by rw[List.length_append,List.length_append,List.length_take,List.length_drop,List.length_map,List.length_singleton];omega)]
     have e:(xs.map PyData.int).take k++[PyData.int z1]++(xs.map PyData.int).drop k=(xs.take k++[z1]++xs.drop k).map .int:=by
      rw[List.map_append,List.map_append,List.map_take,List.map_drop]
      rfl
     rw[e]
     rfl
    show ax 3 _ ((bZ (some (.list ((xs.take k++[z1]++xs.drop k).map .int))) (ae (some (.list ([[-1],[]].map fun zs:List Int=>PyData.list (zs.map .int)))) (ae (aU (.int h) (.int 100)) (some (.int 2)) aM) ay)).map .list)=_
    rw[cY (by decide) rfl,bh,b8 (by decide),bh,ee2,lC (by rw[List.length_append,List.length_map,List.length_map,List.length_append,List.length_append,List.length_take,List.length_drop,List.length_singleton];omega),← List.map_append]
    rfl
   exact xD _ _ hh f0 f1 hR (by rw[List.length_append,List.length_append,List.length_append,List.length_take,List.length_drop,List.length_singleton];omega)
 show i3 (kU [some (.list (ns.map .int)),none,none,none,none,none,none,none,none,none,none,none,none,none,none])=_
 rw[q]
 rfl
end NW
namespace NW
open L2
structure bH (mg:Str->Option Value):Prop where
 m_ValueError:mg "ValueError"=none
 m_abs:mg "abs"=none
 m_enumerate:mg "enumerate"=none
 m_int:mg "int"=none
 m_isinstance:mg "isinstance"=none
 m_len:mg "len"=none
 m_min:mg "min"=none
 m_range:mg "range"=none
 m_set:mg "set"=none
 m_sorted:mg "sorted"=none
 m_sum:mg "sum"=none
 m_zip:mg "zip"=none
section
variable {P:Program}{w:World}{K:PySem.W.Frag}{mg:Str->Option Value}{base:Heap}
theorem zt:lg lS:=⟨rfl,rfl,rfl,by decide +kernel,by decide +kernel,by decide +kernel,by decide +kernel,by decide +kernel,by decide +kernel⟩
theorem B1:∀ x∈lS.free,(aL jH).names.lookup x=some .cell:=by decide +kernel
theorem C7 (T:bH mg)(AY:aW P w K mg base 3 "way_round" ["around","place","post"] .cl jW):iE P w K mg base 4 "ring_reach@0" mH:=
 wF (k:=3) (L:=lS) rfl zt pT (fun _ _ _ _ us hl=>eO (P:=fun us=>bindArgs _ ⟨us,[]⟩=pure (List.zip _ us)) hl (fun _ _=>rfl)) (fun clos g c' q A outer s H hr=>cI AY hr.mn rfl (ao (ag 2) (ao (ag 0) (ao (ag 1) aB))))
theorem zr:lg lR:=⟨rfl,rfl,rfl,by decide +kernel,by decide +kernel,by decide +kernel,by decide +kernel,by decide +kernel,by decide +kernel⟩
theorem BZ:∀ x∈lR.free,(aL jG).names.lookup x=some .cell:=by decide +kernel
theorem C6 (T:bH mg)(p8:aW P w K mg base 3 "fewest_arcs" ["around","places","length"] .cl gh):iE P w K mg base 4 "least_length@0" mG:=
 wF (k:=3) (L:=lR) rfl zr pP (fun _ _ _ _ us hl=>kq (P:=fun us=>bindArgs _ ⟨us,[]⟩=pure (List.zip _ us)) hl (fun _=>rfl)) (fun clos g c' q A outer s H hr=>PV.r (kQ vy (PV.r (dw dM rfl T.m_len dC (ao (cI p8 hr.mn rfl (ao (ag 3) (ao (ag 1) (ao (ag 0) aB)))) aB))) (ag 2)))
theorem sW:bp ["_law_unit","_law_k","_law_number"] ["_law_unit","_law_k"] (aL su):=bN
theorem Fy {f:Addr}{fd:FuncData}(F:aZ K "_law_mix" ("_law_mix") su f fd)(T:bH mg) :aS P w K mg base bc 1 f fd ["_law_unit","_law_k"] (bB K .cl ff):=
 cN (k:=0) ⟨[],.cl⟩ F sW (by decide) pf (fun cdv hk A outer s H E hr=>aH (cD (bj jr (ag 0) (PV.r (v_pow ai ai))) (aV (bJ (PV.r (v_sub (ag 0) (PV.r (v_pow ai ai)))))) cJ) (aH (bt 2 sW.nd (v_mod (ag 0) (PV.r (v_pow ai ai)))) (aH (bt 2 sW.nd (v_mod (PV.r (v_mul (PV.r (v_add (PV.r (v_add (PV.r (v_mul (ag 2) (ag 2))) (PV.r (v_mul (PV.r (v_mul ai (ag 1))) (ag 1))))) ai)) ai)) (PV.r (v_add (PV.r (v_pow ai ai)) ai)))) (aV (bJ (PV.r (v_mod (PV.r (v_mul (PV.r (v_add (PV.r (v_mul (ag 2) (ag 2))) (ag 1))) ai)) (PV.r (v_add (PV.r (v_pow ai ai)) ai)))))))))
theorem II:bp ["_law_script","_law_k"] ["_law_script","_law_k"] (aL sr):=bN
theorem Fw {f:Addr}{fd:FuncData}(F:aZ K "_law_cell_at" ("_law_cell_at") sr f fd)(T:bH mg) :aS P w K mg base bc 1 f fd ["_law_script","_law_k"] (bB K .cl fM):=
 cN (k:=0) ⟨[],.cl⟩ F II (by decide) pe (fun cdv hk A outer s H E hr=>aH (cD (bj dO (ag 1) (PV.r (dw dM rfl T.m_len dC (ao (ag 0) aB)))) (aV (bJ (bo (ag 0) (ag 1)))) cJ) (aV (bJ ai)))
theorem i6:bp ["_law_script","_law_at","_law_most","_law_head","_law_around","_law_folk","_law_k","_law_number","_law_place"] ["_law_script","_law_at","_law_most"] (aL sv):=bN
theorem Fz {f:Addr}{fd:FuncData}(F:aZ K "_law_ring" ("_law_ring") sv f fd)(T:bH mg)(mM:aW P w K mg base 1 "_law_mix" ["_law_unit","_law_k"] .cl ff)(mL:aW P w K mg base 1 "_law_cell_at" ["_law_script","_law_k"] .cl fM):aS P w K mg base bc 2 f fd ["_law_script","_law_at","_law_most"] (bB K .cl iA):=
 cN (k:=1) ⟨[(5,.lst .cl)],.cl⟩ F i6 (by decide) ph (fun cdv hk A outer s H E hr=>aH (bt 3 i6.nd (jL mM hr.mn rfl (aJ (jL mL hr.mn rfl (aJ (aK 0) (aJ (aK 1) bE))) (aJ (aK 1) bE)))) (aH (bt 4 i6.nd (PR.clf (bo (aP.r (bS (ao (PV.r (v_add ai (PV.r (v_mod (PV.r (cy (ag 3) ai)) ai)))) (ao (PV.r (v_add ai (PV.r (v_mod (PV.r (cy (ag 3) ai)) ai)))) (ao (PV.r (v_add ai (PV.r (v_mod (PV.r (cy (ag 3) ai)) ai)))) (ao (PV.r (v_add ai (PV.r (v_mod (PV.r (cy (ag 3) ai)) (PV.r (v_pow ai ai)))))) aB)))))) (PV.r (v_mod (ag 3) ai))))) (aH (oP (i:=5) i6.nd rfl (Or.inl rfl) (fV bE)) (aH (jF rfl (xh rfl T.m_range (ao (PV.r (v_mod (PV.r (cy (ag 3) (PV.r (v_pow ai ai)))) (PV.r (v_add (ag 2) ai)))) aB)) (cC (i:=6) i6.nd rfl (Or.inl rfl)) (aH (bt 7 i6.nd (jL mM hr.mn rfl (aJ (jL mL hr.mn rfl (aJ (aK 0) (aJ (v_add (PV.r (v_add (ag 1) ai)) (ag 6)) bE))) (aJ i4 bE)))) (aH (bt 8 i6.nd (v_mod (ag 7) (ag 4))) (aH (cD (fH (w_and (bj (dq hr.units) (PV.r (v_mod (PV.r (cy (ag 7) (PV.r (v_pow ai ai)))) ai)) ai) (mq (bj vx (PV.r (dw dM rfl T.m_len dC (ao (ij (pv 5)) aB))) ai)))) (aV (bt 8 i6.nd (PR.clf (bo (ij (pv 5)) ai)))) cJ) (aV (oE (pv 5) (aK 8)))))) PassesOwn.never) (aV (bJ (aP.r (bS (ao (ag 4) (ao (ij (pv 5)) aB))))))))))
theorem sX:bp ["around","folk","number","place"] ["around","folk"] (aL sE):=bN
theorem FG {f:Addr}{fd:FuncData}(F:aZ K "check_ring" "check_ring" sE f fd)(T:bH mg){Av:Addr}(qF:gZ K mg "NoRing" Av)(qB:j_ P w K mg base 1 "NoFolk" "number"):aS P w K mg base (dy P w) 3 f fd ["around","folk"] (e_ K .cl bU):=
 hU (k:=2) ⟨[],.cl⟩ F sX (by decide) mw (fun cdv hk A outer s H E hr=>gf (iu (bj dO (ag 0) ai) (cR (tW rfl rfl (qF.at rfl))) mr) (cR (Ae rfl (rB rfl T.m_enumerate (aK 1)) (n6 rfl (gz (cC (i:=2) sX.nd rfl (Or.inl rfl)) (gz (cC (i:=3) sX.nd rfl (Or.inl rfl)) lM))) (cR (iu (fH (w_or (bj dO (ag 3) ai) (jM (bj jr (ag 3) (ag 0))))) (cR (Af rfl rfl rfl qB hr.mn (aK 2))) mr)) PassesOwn.leaving)))
theorem IL:bp ["folk","posts"] ["folk","posts"] (aL sD):=bN
theorem FF {f:Addr}{fd:FuncData}(F:aZ K "check_posts" "check_posts" sD f fd)(T:bH mg){Au:Addr}(qE:gZ K mg "NoPosts" Au):aS P w K mg base (dy P w) 1 f fd ["folk","posts"] (e_ K .cl fL):=
 hU (k:=0) ⟨[],.cl⟩ F IL (by decide) t6 (fun cdv hk A outer s H E hr=>cR (iu (fH (w_and (bj vx (PV.r (dw dM rfl T.m_len dC (ao (ag 0) aB))) ai) (mq (bj (dq hr.units) (PV.r (dw dM rfl T.m_len dC (ao (ag 1) aB))) ai)))) (cR (tW rfl rfl (qE.at rfl))) mr))
theorem sY:bp ["around","posts","number","post"] ["around","posts"] (aL sF):=bN
theorem FH {f:Addr}{fd:FuncData}(F:aZ K "check_ring_posts" "check_ring_posts" sF f fd)(T:bH mg)(qC:j_ P w K mg base 1 "NoPost" "number"):aS P w K mg base (dy P w) 3 f fd ["around","posts"] (e_ K .cl iy):=
 hU (k:=2) ⟨[],.cl⟩ F sY (by decide) t7 (fun cdv hk A outer s H E hr=>cR (Ae rfl (rB rfl T.m_enumerate (aK 1)) (n6 rfl (gz (cC (i:=2) sY.nd rfl (Or.inl rfl)) (gz (cC (i:=3) sY.nd rfl (Or.inl rfl)) lM))) (cR (iu (fH (w_or (bj dO (bo (ag 3) ai) ai) (jM (bj jr (bo (ag 3) ai) (PV.r (v_mul (ag 0) (bo (ag 3) ai))))))) (cR (Af rfl rfl rfl qC hr.mn (aK 2))) mr)) PassesOwn.leaving))
theorem IP:bp ["one","other"] ["one","other"] (aL sM):=bN
theorem FP {f:Addr}{fd:FuncData}(F:aZ K "is_below" ("is_below") sM f fd)(T:bH mg) :aS P w K mg base bc 1 f fd ["one","other"] (bB K .cl iC):=
 cN (k:=0) ⟨[],.cl⟩ F IP (by decide) pC (fun cdv hk A outer s H E hr=>aV (bJ (PV.r (kQ dO (PV.r (v_mul (bo (ag 0) ai) (bo (ag 1) ai))) (PV.r (v_mul (bo (ag 1) ai) (bo (ag 0) ai)))))))
theorem oW:bp ["several","greatest","each"] ["several"] (aL sL):=bN
theorem FO {f:Addr}{fd:FuncData}(F:aZ K "greatest_of" ("greatest_of") sL f fd)(T:bH mg)(p_:aW P w K mg base 1 "is_below" ["one","other"] .cl iC):aS P w K mg base bc 2 f fd ["several"] (bB K .cl jc):=
 cN (k:=1) ⟨[],.cl⟩ F oW (by decide) pB (fun cdv hk A outer s H E hr=>aH (bt 1 oW.nd (PR.cl0 (bo (ag 0) ai))) (aH (jF rfl (oi (aK 0)) (cC (i:=2) oW.nd rfl (Or.inl rfl)) (aV (cD (kN (cI p_ hr.mn rfl (ao (ag 1) (ao (ag 2) aB)))) (aV (bt 1 oW.nd (aK 2))) cJ)) PassesOwn.never) (aV (bJ (ag 1)))))
theorem oV:bp ["one","other","rest"] ["one","other"] (aL sG):=bN
theorem FI {f:Addr}{fd:FuncData}(F:aZ K "common_divisor" ("common_divisor") sG f fd)(T:bH mg) :aS P w K mg base bc 1 f fd ["one","other"] (bB K .cl jT):=
 cN (k:=0) ⟨[],.cl⟩ F oV (by decide) pk (fun cdv hk A outer s H E hr=>aH (oQ (fun ρ=>rV ρ 1+1) (bj (js hr.units) (ag 1) ai) (aH (bt 2 oV.nd (v_mod (ag 0) (ag 1))) (aH (bt 0 oV.nd (aK 1)) (aV (bt 1 oV.nd (aK 2))))) PassesOwn.never) (aV (bJ (ag 0))))
theorem zq:bp ["top","bottom","divisor"] ["top","bottom"] (aL sJ):=bN
theorem FN {f:Addr}{fd:FuncData}(F:aZ K "fraction_of" ("fraction_of") sJ f fd)(T:bH mg)(AK:aW P w K mg base 1 "common_divisor" ["one","other"] .cl jT):aS P w K mg base bc 2 f fd ["top","bottom"] (bB K .cl fN):=
 cN (k:=1) ⟨[],.cl⟩ F zq (by decide) pA (fun cdv hk A outer s H E hr=>aH (bt 2 zq.nd (PR.cl0 (cI AK hr.mn rfl (ao (ag 0) (ao (ag 1) aB))))) (aV (bJ (gE (ao (PV.r (cy (ag 0) (ag 2))) (ao (PV.r (cy (ag 1) (ag 2))) aB))))))
theorem zv:bp ["around","place","post","gap"] ["around","place","post"] (aL sR):=bN
theorem F8 {f:Addr}{fd:FuncData}(F:aZ K "way_round" ("way_round") sR f fd)(T:bH mg)(k8:aW P w K mg base 2 "fraction_of" ["top","bottom"] .cl fN):aS P w K mg base bc 3 f fd ["around","place","post"] (bB K .cl jW):=
 cN (k:=2) ⟨[],.cl⟩ F zv (by decide) pJ (fun cdv hk A outer s H E hr=>aH (bt 3 zv.nd (dw (Bp) rfl T.m_abs BA (ao (PV.r (v_sub (PV.r (v_mul (ag 1) (bo (ag 2) ai))) (bo (ag 2) ai))) aB))) (aV (bJ (cI k8 hr.mn rfl (ao (PV.r (dw (Br rfl) rfl T.m_min BC (ao (ag 3) (ao (PV.r (v_sub (PV.r (v_mul (ag 0) (bo (ag 2) ai))) (ag 3))) aB)))) (ao (bo (ag 2) ai) aB))))))
theorem sZ:bp ["around","places","number","rounds","place"] ["around","places","number"] (aL sH):=bN
theorem FK {f:Addr}{fd:FuncData}(F:aZ K "first_stand_from" ("first_stand_from") sH f fd)(T:bH mg) :aS P w K mg base bc 1 f fd ["around","places","number"] (bB K .cl iB):=
 cN (k:=0) ⟨[],.cl⟩ F sZ (by decide) px (fun cdv hk A outer s H E hr=>aH (bt 3 sZ.nd (v_mul (PV.r (cy (ag 2) (ag 0))) (ag 0))) (aH (jF rfl (oi (aK 1)) (cC (i:=4) sZ.nd rfl (Or.inl rfl)) (aV (cD (bj jr (PV.r (v_add (ag 3) (ag 4))) (ag 2)) (aV (bJ (PV.r (v_add (ag 3) (ag 4))))) cJ)) PassesOwn.never) (aV (bJ (PV.r (v_add (PV.r (v_add (ag 3) (ag 0))) (bo (ag 1) ai)))))))
theorem oU:bp ["around","places","length","first","starts","start"] ["around","places","length","first"] (aL sx):=bN
theorem FC {f:Addr}{fd:FuncData}(F:aZ K "arcs_from" ("arcs_from") sx f fd)(T:bH mg)(p9:aW P w K mg base 1 "first_stand_from" ["around","places","number"] .cl iB):aS P w K mg base bc 2 f fd ["around","places","length","first"] (bB K .cl jS):=
 cN (k:=1) ⟨[(4,.lst .cl)],.cl⟩ F oU (by decide) pj (fun cdv hk A outer s H E hr=>aH (oP (i:=4) oU.nd rfl (Or.inl rfl) (fV bE)) (aH (bt 5 oU.nd (aK 3)) (aH (oQ (fun ρ=>64) (bj dO (ag 5) (PV.r (v_add (ag 3) (ag 0)))) (aH (oE (pv 4) (aK 5)) (aV (bt 5 oU.nd (jL p9 hr.mn rfl (aJ (aK 0) (aJ (aK 1) (aJ (v_add (PV.r (v_add (ag 5) (ag 2))) ai) bE))))))) PassesOwn.never) (aV (bJ (ij (pv 4)))))))
theorem IM:bp ["around","places","length"] ["around","places","length"] (aL oH):=bN
theorem EV:(["first","around","places","length"]:List Str).Nodup:=by decide +kernel
theorem FJ {f:Addr}{fd:FuncData}(F:aZ K "fewest_arcs" ("fewest_arcs") oH f fd)(T:bH mg)(AG:aW P w K mg base 2 "arcs_from" ["around","places","length","first"] .cl jS):aS P w K mg base bc 3 f fd ["around","places","length"] (bB K .cl gh):=
 cN (k:=2) ⟨[],.cl⟩ F IM (by decide) pq (fun cdv hk A outer s H E hr=>aV (bJ (HE hr.hd rfl T.m_min rfl T.m_len (aP.r (ki (k:=1) (N:=["first","around","places","length"]) (ix:=[0,1,2])  (aL oH) rfl ⟨rfl,rfl,by decide +kernel,by decide +kernel,by decide +kernel,rfl,by decide +kernel,rfl⟩ rfl rfl (iV (ag 1)) (fun _ _ _ _ _ _=>cC (i:=0) EV rfl (Or.inl rfl)) (fun _ _ _ _ _ _=>iT) (fun _ _ _ _ _ _=>cI AG hr.mn rfl (ao (ag 1) (ao (ag 2) (ao (ag 3) (ao (ag 0) aB))))))))))
theorem oY:bp ["several","least","each"] ["several"] (aL sN):=bN
theorem FR {f:Addr}{fd:FuncData}(F:aZ K "least_of" ("least_of") sN f fd)(T:bH mg)(p_:aW P w K mg base 1 "is_below" ["one","other"] .cl iC):aS P w K mg base bc 2 f fd ["several"] (bB K .cl jd):=
 cN (k:=1) ⟨[],.cl⟩ F oY (by decide) pE (fun cdv hk A outer s H E hr=>aH (bt 1 oY.nd (PR.cl0 (bo (ag 0) ai))) (aH (jF rfl (oi (aK 0)) (cC (i:=2) oY.nd rfl (Or.inl rfl)) (aV (cD (kN (cI p_ hr.mn rfl (ao (ag 2) (ao (ag 1) aB)))) (aV (bt 1 oY.nd (aK 2))) cJ)) PassesOwn.never) (aV (bJ (ag 1)))))
theorem IU:bp ["way","one","posts"] ["way","one","posts"] (aL oN):=bN
theorem E5:(["post","way","one"]:List Str).Nodup:=by decide +kernel
theorem F9 {f:Addr}{fd:FuncData}(F:aZ K "way_to_nearest" ("way_to_nearest") oN f fd)(T:bH mg)(AN:aW P w K mg base 2 "least_of" ["several"] .cl jd)(GA:i7 P w K mg base 4 FT):aS P w K mg base bc 5 f fd ["way","one","posts"] (bB K .cl jX):=
 cN (k:=4) ⟨[],.cl⟩ F IU (by decide) pK (fun cdv hk A outer s H E hr=>aV (bJ (cI AN hr.mn rfl (ao (aP.r (ki (k:=1) (N:=["post","way","one"]) (ix:=[0,1])  (aL oN) rfl ⟨rfl,rfl,by decide +kernel,by decide +kernel,by decide +kernel,rfl,by decide +kernel,rfl⟩ rfl rfl (iV (ag 2)) (fun _ _ _ _ _ _=>cC (i:=0) E5 rfl (Or.inl rfl)) (fun _ _ _ _ _ _=>iT) (fun _ _ _ _ _ _=>ze GA hr.mn (ag 1) (ao (ag 2) (ao (ag 0) aB))))) aB))))
theorem IQ:bp ["way","folk","posts"] ["way","folk","posts"] (aL oK):=bN
theorem EX:(["one","way","posts"]:List Str).Nodup:=by decide +kernel
theorem FW {f:Addr}{fd:FuncData}(F:aZ K "reach_by" ("reach_by") oK f fd)(T:bH mg)(AM:aW P w K mg base 2 "greatest_of" ["several"] .cl jc)(AZ:aW P w K mg base 5 "way_to_nearest" ["way","one","posts"] .cl jX):aS P w K mg base bc 6 f fd ["way","folk","posts"] (bB K .cl je):=
 cN (k:=5) ⟨[],.cl⟩ F IQ (by decide) pG (fun cdv hk A outer s H E hr=>aH (cD (bj (dq hr.units) (PV.r (dw dM rfl T.m_len dC (ao (ag 1) aB))) ai) (aV (bJ (gE (ao ai (ao ai aB))))) cJ) (aV (bJ (cI AM hr.mn rfl (ao (aP.r (ki (k:=1) (N:=["one","way","posts"]) (ix:=[0,2])  (aL oK) rfl ⟨rfl,rfl,by decide +kernel,by decide +kernel,by decide +kernel,rfl,by decide +kernel,rfl⟩ rfl rfl (iV (ag 1)) (fun _ _ _ _ _ _=>cC (i:=0) EX rfl (Or.inl rfl)) (fun _ _ _ _ _ _=>iT) (fun _ _ _ _ _ _=>cI AZ hr.mn rfl (ao (ag 1) (ao (ag 0) (ao (ag 2) aB)))))) aB)))))
theorem IT:bp ["around","folk","posts"] ["around","folk","posts"] (aL jH):=bN
theorem F5 {f:Addr}{fd:FuncData}(F:aZ K "ring_reach" "ring_reach" jH f fd)(T:bH mg)(gO:bW P w K mg base 3 "check_ring" ["around","folk"] .cl bU)(AI:bW P w K mg base 1 "check_posts" ["folk","posts"] .cl fL)(AJ:bW P w K mg base 3 "check_ring_posts" ["around","posts"] .cl iy)(AQ:aW P w K mg base 6 "reach_by" ["way","folk","posts"] .cl je)(hy:("ring_reach":Str)∈cS P)(ht:(PySem.W.tabIn K "ring_reach").isSome=true)(hn:PySem.W.nsIn K mainGlobals "ring_reach"=some (some (.ref f))):aS P w K mg base (dy P w) 7 f fd ["around","folk","posts"] (e_ K .cl gg):=
 hU (k:=6) ⟨[],.cl⟩ F IT (by decide) iv (fun cdv hk A outer s H E hr=>gf (eC (eA gO hr.mn rfl rfl (aJ (aK 0) (aJ (aK 1) bE)))) (gf (eC (eA AI hr.mn rfl rfl (aJ (aK 1) (aJ (aK 2) bE)))) (gf (eC (eA AJ hr.mn rfl rfl (aJ (aK 0) (aJ (aK 2) bE)))) (cR (Ad (bJ (zf (tag:="ring_reach@0") (L:=lS) [0] rfl zt ⟨xB hy ht hn hk,rfl,rfl,B1,fun _ _=>rfl,rfl⟩ AQ hr.mn rfl (ao (ag 1) (ao (ag 2) aB)))))))))
theorem IK:bp ["many"] ["many"] (aL sC):=bN
theorem FE {f:Addr}{fd:FuncData}(F:aZ K "check_many" "check_many" sC f fd)(T:bH mg){Ar:Addr}(qD:gZ K mg "NoMany" Ar):aS P w K mg base (dy P w) 1 f fd ["many"] (e_ K .cl dA):=
 hU (k:=0) ⟨[],.cl⟩ F IK (by decide) t5 (fun cdv hk A outer s H E hr=>cR (iu (bj dO (ag 0) ai) (cR (tW rfl rfl (qD.at rfl))) mr))
theorem td:bp ["around","places","lengths","one"] ["around","places"] (aL oJ):=bN
theorem EW:(["other","one","around"]:List Str).Nodup:=by decide +kernel
theorem FU {f:Addr}{fd:FuncData}(F:aZ K "lengths_to_try" ("lengths_to_try") oJ f fd)(T:bH mg) :aS P w K mg base bc 1 f fd ["around","places"] (bB K .cl jV):=
 cN (k:=0) ⟨[(2,.lst .cl)],.cl⟩ F td (by decide) pF (fun cdv hk A outer s H E hr=>aH (oP (i:=2) td.nd rfl (Or.inl rfl) (fV (aJ i4 bE))) (aH (jF rfl (oi (aK 1)) (cC (i:=3) td.nd rfl (Or.inr rfl)) (aV (ID (pv 2) (aP.cf (ki (k:=1) (N:=["other","one","around"]) (ix:=[3,0])  (aL oJ) rfl ⟨rfl,rfl,by decide +kernel,by decide +kernel,by decide +kernel,rfl,by decide +kernel,rfl⟩ rfl rfl (iV (ag 1)) (fun _ _ _ _ _ _=>cC (i:=0) EW rfl (Or.inl rfl)) (fun _ _ _ _ _ _=>iT) (fun _ _ _ _ _ _=>PV.r (v_mod (PV.r (v_sub (ag 0) (ag 1))) (ag 2))))))) PassesOwn.never) (aV (bJ (aP.r (lI rfl rfl T.m_sorted rfl T.m_set (ij (pv 2))))))))
theorem kF:bp ["holds","several","low","high","middle"] ["holds","several"] (aL sI):=bN
theorem FL {f:Addr}{fd:FuncData}(F:aZ K "first_that_holds" ("first_that_holds") sI f fd)(T:bH mg)(GA:i7 P w K mg base 4 FT):aS P w K mg base bc 5 f fd ["holds","several"] (bB K .cl jU):=
 cN (k:=4) ⟨[],.cl⟩ F kF (by decide) pz (fun cdv hk A outer s H E hr=>aH (bt 2 kF.nd i4) (aH (bt 3 kF.nd (v_sub (PV.r (dw dM rfl T.m_len dC (ao (ag 1) aB))) ai)) (aH (oQ (fun ρ=>64) (bj dO (ag 2) (ag 3)) (aH (bt 4 kF.nd (cy (PV.r (v_add (ag 2) (ag 3))) ai)) (aV (cD (kN (ze GA hr.mn (ag 0) (ao (bo (ag 1) (ag 4)) aB))) (aV (bt 3 kF.nd (aK 4))) (aV (bt 2 kF.nd (v_add (ag 4) ai)))))) PassesOwn.never) (aV (bJ (ag 2))))))
theorem s_:bp ["around","places","many","lengths","place"] ["around","places","many"] (aL jG):=bN
theorem FQ {f:Addr}{fd:FuncData}(F:aZ K "least_length" ("least_length") jG f fd)(T:bH mg)(AO:aW P w K mg base 1 "lengths_to_try" ["around","places"] .cl jV)(AL:aW P w K mg base 5 "first_that_holds" ["holds","several"] .cl jU)(hy:("least_length":Str)∈cS P)(ht:(PySem.W.tabIn K "least_length").isSome=true)(hn:PySem.W.nsIn K mainGlobals "least_length"=some (some (.ref f))):aS P w K mg base bc 6 f fd ["around","places","many"] (bB K .cl eW):=
 cN (k:=5) ⟨[],.cl⟩ F s_ (by decide) pD (fun cdv hk A outer s H E hr=>aH (bt 3 s_.nd (PR.cl0 (cI AO hr.mn rfl (ao (ag 0) (ao (ag 1) aB))))) (aH (bt 4 s_.nd (PR.cl0 (zf (tag:="least_length@0") (L:=lR) [1,2,0] rfl zr ⟨xB hy ht hn hk,rfl,rfl,BZ,fun _ _=>rfl,rfl⟩ AL hr.mn rfl (ao (ag 3) aB)))) (aV (bJ (bo (ag 3) (ag 4))))))
theorem IS:bp ["around","folk","many"] ["around","folk","many"] (aL sP):=bN
theorem FZ {f:Addr}{fd:FuncData}(F:aZ K "ring_least" "ring_least" sP f fd)(T:bH mg)(k7:bW P w K mg base 1 "check_many" ["many"] .cl dA)(gO:bW P w K mg base 3 "check_ring" ["around","folk"] .cl bU)(k8:aW P w K mg base 2 "fraction_of" ["top","bottom"] .cl fN)(k9:aW P w K mg base 6 "least_length" ["around","places","many"] .cl eW):aS P w K mg base (dy P w) 7 f fd ["around","folk","many"] (e_ K .cl gH):=
 hU (k:=6) ⟨[],.cl⟩ F IS (by decide) jO (fun cdv hk A outer s H E hr=>gf (eC (eA k7 hr.mn rfl rfl (aJ (aK 2) bE))) (gf (eC (eA gO hr.mn rfl rfl (aJ (aK 0) (aJ (aK 1) bE)))) (cR (Ad (bJ (cI k8 hr.mn rfl (ao (cI k9 hr.mn rfl (ao (ag 0) (ao (aP.r (lI rfl rfl T.m_sorted rfl T.m_set (ag 1))) (ao (ag 2) aB)))) (ao ai aB))))))))
theorem oZ:bp ["around","folk","many","places","length","twice"] ["around","folk","many"] (aL mh):=bN
theorem EY:(["start","length","around"]:List Str).Nodup:=by decide +kernel
theorem EZ:(["each"]:List Str).Nodup:=by decide +kernel
theorem F0 {f:Addr}{fd:FuncData}(F:aZ K "ring_posts" "ring_posts" mh f fd)(T:bH mg)(k7:bW P w K mg base 1 "check_many" ["many"] .cl dA)(gO:bW P w K mg base 3 "check_ring" ["around","folk"] .cl bU)(k9:aW P w K mg base 6 "least_length" ["around","places","many"] .cl eW)(k8:aW P w K mg base 2 "fraction_of" ["top","bottom"] .cl fN)(p8:aW P w K mg base 3 "fewest_arcs" ["around","places","length"] .cl gh):aS P w K mg base (dy P w) 7 f fd ["around","folk","many"] (e_ K (.lst .cl) gJ):=
 hU (k:=6) ⟨[],.lst .cl⟩ F oZ (by decide) jP (fun cdv hk A outer s H E hr=>gf (eC (eA k7 hr.mn rfl rfl (aJ (aK 2) bE))) (gf (eC (eA gO hr.mn rfl rfl (aJ (aK 0) (aJ (aK 1) bE)))) (tU (aH (bt 3 oZ.nd (bL.v (aP.cz (lI rfl rfl T.m_sorted rfl T.m_set (ag 1))))) (aH (@dS _ _ _ _ _ _ 4 _ _ oZ.nd rfl (Or.inr rfl) (PR.cl0 (cI k9 hr.mn rfl (ao (ag 0) (ao (ag 3) (ao (ag 2) aB))))) rfl rfl (by first | exact .inl rfl | exact .inr rfl | assumption)) (aH (zm (i:=5)  (k:=1) (N:=["start","length","around"]) (ix:=[4,0]) oZ.nd rfl (Or.inl rfl) (aL mh) rfl ⟨rfl,rfl,by decide +kernel,by decide +kernel,by decide +kernel,rfl,by decide +kernel,rfl⟩ rfl rfl (iV (cI p8 hr.mn rfl (ao (ag 0) (ao (ag 3) (ao (ag 4) aB))))) (fun _ _ _ _ _ _=>cC (i:=0) EY rfl (Or.inl rfl)) (fun _ _ _ _ _ _=>iT) (fun _ _ _ _ _ _=>PV.r (v_mod (PV.r (v_add (PV.r (v_mul ai (ag 0))) (ag 1))) (PV.r (v_mul ai (ag 2)))))) (aV (oO (dJ.rt (bL.ft (aP.cz (ki (k:=1) (N:=["each"]) (ix:=[])  (aL mh) rfl ⟨rfl,rfl,by decide +kernel,by decide +kernel,by decide +kernel,rfl,by decide +kernel,rfl⟩ rfl rfl (iV (aP.r (CZ rfl T.m_sorted (ag 5)))) (fun _ _ _ _ _ _=>cC (i:=0) EZ rfl (Or.inl rfl)) (fun _ _ _ _ _ _=>iT) (fun _ _ _ _ _ _=>cI k8 hr.mn rfl (ao (ag 0) (ao ai aB)))))))))))))))
theorem zu:bp ["around","places","length","first","count","steps"] ["around","places","length","first","count"] (aL sQ):=bN
theorem F7 {f:Addr}{fd:FuncData}(F:aZ K "steps_from" ("steps_from") sQ f fd)(T:bH mg)(p9:aW P w K mg base 1 "first_stand_from" ["around","places","number"] .cl iB):aS P w K mg base bc 2 f fd ["around","places","length","first","count"] (bB K (.lst .cl) iD):=
 cN (k:=1) ⟨[(5,.lst .cl)],.lst .cl⟩ F zu (by decide) pH (fun cdv hk A outer s H E hr=>aH (oP (i:=5) zu.nd rfl (Or.inl rfl) (fV (aJ (aK 3) bE))) (aH (oQ (fun ρ=>64) (bj dO (PV.r (dw dM rfl T.m_len dC (ao (ij (pv 5)) aB))) (ag 4)) (aV (oE (pv 5) (jL p9 hr.mn rfl (aJ (aK 0) (aJ (aK 1) (aJ (v_add (bo (ij (pv 5)) (PV.r (fJ ai))) (ag 2)) bE)))))) PassesOwn.never) (aV (oO (Iu (pv 5))))))
theorem ti:bp ["around","folk","many","places","length"] ["around","folk","many"] (aL oM):=bN
theorem E4:(["first","around","places","length","many"]:List Str).Nodup:=by decide +kernel
theorem F6 {f:Addr}{fd:FuncData}(F:aZ K "ring_shown" "ring_shown" oM f fd)(T:bH mg)(k7:bW P w K mg base 1 "check_many" ["many"] .cl dA)(gO:bW P w K mg base 3 "check_ring" ["around","folk"] .cl bU)(k9:aW P w K mg base 6 "least_length" ["around","places","many"] .cl eW)(qa:aW P w K mg base 2 "steps_from" ["around","places","length","first","count"] (.lst .cl) iD):aS P w K mg base (dy P w) 7 f fd ["around","folk","many"] (e_ K (.lst (.lst .cl)) gK):=
 hU (k:=6) ⟨[],.lst (.lst .cl)⟩ F ti (by decide) jQ (fun cdv hk A outer s H E hr=>gf (eC (eA k7 hr.mn rfl rfl (aJ (aK 2) bE))) (gf (eC (eA gO hr.mn rfl rfl (aJ (aK 0) (aJ (aK 1) bE)))) (tU (aH (@dS _ _ _ _ _ _ 3 _ _ ti.nd rfl (Or.inr rfl) (bL.v (aP.cz (lI rfl rfl T.m_sorted rfl T.m_set (ag 1)))) rfl rfl (by first | exact .inl rfl | exact .inr rfl | assumption)) (aH (@dS _ _ _ _ _ _ 4 _ _ ti.nd rfl (Or.inr rfl) (PR.cl0 (cI k9 hr.mn rfl (ao (ag 0) (ao (ag 3) (ao (ag 2) aB))))) rfl rfl (by first | exact .inl rfl | exact .inr rfl | assumption)) (aH (cD (bj (dq hr.units) (ag 4) ai) (aV (oO (Iv))) cJ) (aV (oO (dJ.rt (C4 (k:=1) (N:=["first","around","places","length","many"]) (ix:=[0,3,4,2])  (aL oM) rfl ⟨rfl,rfl,by decide +kernel,by decide +kernel,by decide +kernel,rfl,by decide +kernel,rfl⟩ rfl rfl (iV (ag 3)) (fun _ _ _ _ _ _=>cC (i:=0) E4 rfl (Or.inl rfl)) (fun _ _ _ _ _ _=>iT) (fun _ _ _ _ _ _=>C3 qa hr.mn rfl (aJ (aK 1) (aJ (aK 2) (aJ (aK 3) (aJ (aK 0) (aJ (v_add (ag 4) ai) bE))))))))))))))))
theorem IJ:bp ["around","places","length","first","row"] ["around","places","length","first","row"] (aL sy):=bN
theorem FD {f:Addr}{fd:FuncData}(F:aZ K "are_steps" ("are_steps") sy f fd)(T:bH mg)(qa:aW P w K mg base 2 "steps_from" ["around","places","length","first","count"] (.lst .cl) iD):aS P w K mg base bc 3 f fd ["around","places","length","first","row"] (bB K .cl mF):=
 cN (k:=2) ⟨[],.cl⟩ F IJ (by decide) t9 (fun cdv hk A outer s H E hr=>aH (cD (fH (w_or (bj dO (PV.r (dw dM rfl T.m_len dC (ao (ag 4) aB))) ai) (jM (bj jr (bo (ag 4) (PV.r (fJ ai))) (PV.r (v_add (ag 3) (ag 0))))))) (aV (bJ (PV.r kB))) cJ) (aV (bJ (PV.r (kQ (dq hr.units) (ag 4) (cI qa hr.mn rfl (ao (ag 0) (ao (ag 1) (ao (ag 2) (ao (ag 3) (ao (PV.r (dw dM rfl T.m_len dC (ao (ag 4) aB))) aB)))))))))))
theorem mi:bp ["around","folk","reach","rows","places","length","first","row"] ["around","folk","reach","rows"] (aL sO):=bN
theorem FY {f:Addr}{fd:FuncData}(F:aZ K "ring_holds" "ring_holds" sO f fd)(T:bH mg)(gO:bW P w K mg base 3 "check_ring" ["around","folk"] .cl bU)(AH:aW P w K mg base 3 "are_steps" ["around","places","length","first","row"] .cl mF):aS P w K mg base (dy P w) 4 f fd ["around","folk","reach","rows"] (e_ K .cl iz):=
 hU (k:=3) ⟨[],.cl⟩ F mi (by decide) mx (fun cdv hk A outer s H E hr=>gf (eC (eA gO hr.mn rfl rfl (aJ (aK 0) (aJ (aK 1) bE)))) (tU (aH (cD (bj vy (bo (ag 2) ai) ai) (aV (bJ (PV.r kB))) cJ) (aH (bt 4 mi.nd (bL.v (aP.cz (lI rfl rfl T.m_sorted rfl T.m_set (ag 1))))) (aH (cD (bj (js hr.units) (PV.r (dw dM rfl T.m_len dC (ao (ag 3) aB))) (PV.r (dw dM rfl T.m_len dC (ao (ag 4) aB)))) (aV (bJ (PV.r kB))) cJ) (aH (bt 5 mi.nd (fJ (PV.r (cy (PV.r (v_mul (PV.r (fJ ai)) (bo (ag 2) ai))) (bo (ag 2) ai))))) (aH (jF rfl (Eb rfl T.m_zip (aK 4) (aK 3)) (n6 rfl (gz (cC (i:=6) mi.nd rfl (Or.inl rfl)) (gz (cC (i:=7) mi.nd rfl (Or.inl rfl)) lM))) (aV (cD (fH (w_or (bj (js hr.units) (PV.r (dw dM rfl T.m_len dC (ao (ag 7) aB))) (PV.r (dw dM rfl T.m_len dC (ao (bo (ag 3) ai) aB)))) (jM (tH (kN (cI AH hr.mn rfl (ao (ag 0) (ao (ag 4) (ao (ag 5) (ao (ag 6) (ao (ag 7) aB))))))))))) (aV (bJ (PV.r kB))) cJ)) PassesOwn.never) (aV (bJ (PV.r kB))))))))))
theorem oR:bp ["_law_way","_law_around","_law_folk","_law_posts","_law_many","_law_kept","e"] ["_law_way","_law_around","_law_folk","_law_posts","_law_many"] (aL sq):=bN
theorem Fv {f:Addr}{fd:FuncData}(F:aZ K "_law_caught" ("_law_caught") sq f fd)(T:bH mg)(AV:bW P w K mg base 7 "ring_reach" ["around","folk","posts"] .cl gg)(AS:bW P w K mg base 7 "ring_least" ["around","folk","many"] .cl gH)(AU:bW P w K mg base 7 "ring_posts" ["around","folk","many"] (.lst .cl) gJ)(AW:bW P w K mg base 7 "ring_shown" ["around","folk","many"] (.lst (.lst .cl)) gK)(AR:bW P w K mg base 4 "ring_holds" ["around","folk","reach","rows"] .cl iz){D_PostError:Addr}(P_PostError:mg "PostError"=some (.ref D_PostError)∧um K aR D_PostError):aS P w K mg base bc 8 f fd ["_law_way","_law_around","_law_folk","_law_posts","_law_many"] (bB K .cl jb):=
 cN (k:=7) ⟨[],.cl⟩ F oR (by decide) kT (fun cdv hk A outer s H E hr=>aH (bt 5 oR.nd y8) (aH (IG (ie:=6) rfl rfl rfl rfl oR.nd rfl rfl (.inl rfl) rfl rfl P_PostError.1 P_PostError.2 (fun pn W=>cR (iu (bj (dq hr.units) (ag 0) ai) (cR (eC (eA AV hr.mn rfl rfl (aJ (aK 1) (aJ (aK 2) (aJ (aK 3) bE)))))) (cR (iu (bj (dq hr.units) (ag 0) ai) (cR (eC (eA AS hr.mn rfl rfl (aJ (aK 1) (aJ (aK 2) (aJ (aK 4) bE)))))) (cR (iu (bj (dq hr.units) (ag 0) ai) (cR (eC (eA AU hr.mn rfl rfl (aJ (aK 1) (aJ (aK 2) (aJ (aK 4) bE)))))) (cR (iu (bj (dq hr.units) (ag 0) ai) (cR (eC (eA AW hr.mn rfl rfl (aJ (aK 1) (aJ (aK 2) (aJ (aK 4) bE)))))) (cR (eC (eA AR hr.mn rfl rfl (by refine aJ (aK 1) ?_;refine aJ (aK 2) ?_;refine aJ (PR.cl0 (gE (ao ai (ao ai aB)))) ?_;refine aJ (bL.v (aP.cz (bS aB))) ?_;exact bE)))))))))))) (fun pn a=>aV (bt 5 oR.nd (aK 6)))) (aV (bJ (ag 5)))))
theorem kE:bp ["_law_kept","_law_got","_law_words"] ["_law_kept"] (aL oF):=bN
theorem ET:(["_law_one"]:List Str).Nodup:=by decide +kernel
theorem Fx {f:Addr}{fd:FuncData}(F:aZ K "_law_class" ("_law_class") oF f fd)(T:bH mg){D_NoName:Addr}(I_NoName:IsT K mg aR "NoName" D_NoName){D_NoMany:Addr}(I_NoMany:IsT K mg aR "NoMany" D_NoMany){D_NoLine:Addr}(I_NoLine:IsT K mg aR "NoLine" D_NoLine){D_NoFolk:Addr}(I_NoFolk:IsT K mg aR "NoFolk" D_NoFolk){D_NoReach:Addr}(I_NoReach:IsT K mg aR "NoReach" D_NoReach){D_NoPosts:Addr}(I_NoPosts:IsT K mg aR "NoPosts" D_NoPosts){D_NoPost:Addr}(I_NoPost:IsT K mg aR "NoPost" D_NoPost){D_NoText:Addr}(I_NoText:IsT K mg aR "NoText" D_NoText){D_NoTable:Addr}(I_NoTable:IsT K mg aR "NoTable" D_NoTable){D_NoRing:Addr}(I_NoRing:IsT K mg aR "NoRing" D_NoRing){D_NoWord:Addr}(I_NoWord:IsT K mg aR "NoWord" D_NoWord){D_NoWay:Addr}(I_NoWay:IsT K mg aR "NoWay" D_NoWay){D_NoThing:Addr}(I_NoThing:IsT K mg aR "NoThing" D_NoThing){D_PostError:Addr}(I_PostError:IsT K mg aR "PostError" D_PostError)(I_ValueError:mQ K aR):aS P w K mg base bc 1 f fd ["_law_kept"] (bB K .cl dW):=
 cN (k:=0) ⟨[],.cl⟩ F kE (by decide) t8 (fun cdv hk A outer s H E hr=>aH (bt 1 kE.nd (bL.v (aP.cz (bS (ao (PV.r (eS I_NoFolk (ag 0) rfl T.m_isinstance rfl)) (ao (PV.r (eS I_NoLine (ag 0) rfl T.m_isinstance rfl)) (ao (PV.r (eS I_NoMany (ag 0) rfl T.m_isinstance rfl)) (ao (PV.r (eS I_NoName (ag 0) rfl T.m_isinstance rfl)) aB)))))))) (aH (bt 1 kE.nd (bL.v (aP.cz (hV (ag 1) (aP.r (bS (ao (PV.r (eS I_NoPost (ag 0) rfl T.m_isinstance rfl)) (ao (PV.r (eS I_NoPosts (ag 0) rfl T.m_isinstance rfl)) (ao (PV.r (eS I_NoReach (ag 0) rfl T.m_isinstance rfl)) aB))))))))) (aH (bt 1 kE.nd (bL.v (aP.cz (hV (ag 1) (aP.r (bS (ao (PV.r (eS I_NoRing (ag 0) rfl T.m_isinstance rfl)) (ao (PV.r (eS I_NoTable (ag 0) rfl T.m_isinstance rfl)) (ao (PV.r (eS I_NoText (ag 0) rfl T.m_isinstance rfl)) aB))))))))) (aH (bt 1 kE.nd (bL.v (aP.cz (hV (ag 1) (aP.r (bS (ao (PV.r (eS I_NoThing (ag 0) rfl T.m_isinstance rfl)) (ao (PV.r (eS I_NoWay (ag 0) rfl T.m_isinstance rfl)) (ao (PV.r (eS I_NoWord (ag 0) rfl T.m_isinstance rfl)) aB))))))))) (aH (cD (fH (w_or (tH (kN (PV.r (eS I_PostError (ag 0) rfl T.m_isinstance rfl)))) (w_or (tH (kN (PV.r (Kk I_ValueError (ag 0) rfl T.m_isinstance rfl T.m_ValueError Bz)))) (jM (bj (js hr.units) (PV.r (v_sum rfl rfl T.m_sum (aP.r (ki (k:=1) (N:=["_law_one"]) (ix:=[])  (aL oF) rfl ⟨rfl,rfl,by decide +kernel,by decide +kernel,by decide +kernel,rfl,by decide +kernel,rfl⟩ rfl rfl (iV (ag 1)) (fun _ _ _ _ _ _=>cC (i:=0) ET rfl (Or.inl rfl)) (fun _ _ _ _ _ _=>iT) (fun _ _ _ _ _ _=>PV.r (Kh (Bq) rfl T.m_int BB (ao (ag 0) aB))))))) ai))))) (aV (bJ (PV.r cH))) cJ) (aH (bt 2 kE.nd (bL.v (aP.cz (bS (ao (PV.r cH) (ao (PV.r cH) (ao (PV.r cH) (ao (PV.r cH) (ao (PV.r cH) (ao (PV.r cH) (ao (PV.r cH) (ao (PV.r cH) (ao (PV.r cH) (ao (PV.r cH) aB)))))))))))))) (aV (bJ (bo (aP.r (hV (ag 2) (aP.r (bS (ao (PV.r cH) (ao (PV.r cH) (ao (PV.r cH) aB))))))) (PV.r (Kj (ag 1) (PV.r kB))))))))))))
theorem cx:bp ["_law_script","_law_head","_law_around","_law_folk","_law_far","_law_at","_law_posts","_law_many","_law_way","_law_bad","_law_ill","_law_number","_law_post","_law_due","_law_kept"] ["_law_script"] (aL oG):=bN
theorem EU:(["_law_number","_law_folk","_law_around"]:List Str).Nodup:=by decide +kernel
theorem FA {f:Addr}{fd:FuncData}(F:aZ K "law" ("law") oG f fd)(T:bH mg)(mM:aW P w K mg base 1 "_law_mix" ["_law_unit","_law_k"] .cl ff)(AF:aW P w K mg base 2 "_law_ring" ["_law_script","_law_at","_law_most"] .cl iA)(AD:aW P w K mg base 8 "_law_caught" ["_law_way","_law_around","_law_folk","_law_posts","_law_many"] .cl jb)(mL:aW P w K mg base 1 "_law_cell_at" ["_law_script","_law_k"] .cl fM)(AE:aW P w K mg base 1 "_law_class" ["_law_kept"] .cl dW)(FE_number:mI K aR "number"):aS P w K mg base bc 9 f fd ["_law_script"] (bB K .cl k6):=
 cN (k:=8) ⟨[],.cl⟩ F cx (by decide) kU (fun cdv hk A outer s H E hr=>by refine aH ?_ ?_;exact @dS _ _ _ _ _ _ 1 _ _ cx.nd rfl (Or.inl rfl) (PR.cl0 (cI mM hr.mn rfl (ao (cI mL hr.mn rfl (ao (ag 0) (ao ai aB))) (ao ai aB)))) rfl rfl (by first | exact .inl rfl | exact .inr rfl | assumption);refine aH ?_ ?_;exact IB (PR.cl0 (cI AF hr.mn rfl (ao (ag 0) (ao ai (ao ai aB))))) (Dg rfl (gz (cC (i:=2) cx.nd rfl (Or.inr rfl)) (gz (cC (i:=3) cx.nd rfl (Or.inr rfl)) lM)));refine aH ?_ ?_;exact @dS _ _ _ _ _ _ 4 _ _ cx.nd rfl (Or.inl rfl) (v_mod (PV.r (cy (ag 1) (PV.r (v_pow ai ai)))) (PV.r (v_pow ai ai))) rfl rfl (by first | exact .inl rfl | exact .inr rfl | assumption);refine aH ?_ ?_;exact cD (bj (dq hr.units) (PV.r (v_mod (ag 1) ai)) ai) (aH (bt 5 cx.nd (v_mod (PV.r (cy (ag 1) ai)) (PV.r (v_add (PV.r (dw dM rfl T.m_len dC (ao (ag 3) aB))) ai)))) (aH (by refine @dS _ _ _ _ _ _ 3 _ _ cx.nd rfl (Or.inr rfl) ?_ rfl rfl (by first | exact .inl rfl | exact .inr rfl | assumption);refine bL.v ?_;refine aP.cz ?_;refine hV ?_ (aP.r (wz (ag 3) (yu (ag 5)) (yt)));refine aP.r ?_;refine hV (aP.r (wz (ag 3) (yt) (yu (ag 5)))) ?_;refine aP.r ?_;refine bS ?_;refine ao ?_ (aB);refine bo ?_ (PV.r (v_mod (PV.r (cy (ag 1) ai)) ai));refine aP.r ?_;exact bS (ao (PV.r (fJ ai)) (ao (ag 2) (ao (PV.r (v_sub (PV.r (fJ ai)) (ag 4))) (ao (PV.r (v_add (ag 2) (ag 4))) aB))))) (aV (by refine @dS _ _ _ _ _ _ 3 _ _ cx.nd rfl (Or.inr rfl) ?_ rfl rfl (by first | exact .inl rfl | exact .inr rfl | assumption);refine bL.v ?_;refine aP.cz ?_;refine hV (ag 3) ?_;refine bo ?_ (PV.r (v_mod (PV.r (cy (ag 1) ai)) ai));refine aP.r ?_;refine bS ?_;exact (by refine ao (aP.r (bS (ao (PV.r (fJ ai)) aB))) ?_;refine ao (aP.r (bS aB)) ?_;exact aB))))) (cJ);refine aH ?_ ?_;refine @dS _ _ _ _ _ _ 6 _ _ cx.nd rfl (Or.inl rfl) ?_ rfl rfl (by first | exact .inl rfl | exact .inr rfl | assumption);refine PR.cl0 ?_;refine bo ?_ ?_;(refine aP.r ?_;refine bS ?_;refine ao ?_ ?_;(exact aP.r (bS aB));refine ao ?_ ?_;(exact aP.r (bS (ao (gE (ao ai (ao ai aB))) aB)));refine ao ?_ ?_;(exact aP.r (bS (ao (gE (ao (PV.r (v_sub (PV.r (v_mul ai (ag 2))) ai)) (ao ai aB))) aB)));exact aB);exact PV.r (v_mod (PV.r (cy (ag 1) ai)) ai);refine aH ?_ ?_;exact cD (bj (dq hr.units) (PV.r (v_mod (PV.r (cy (ag 1) ai)) ai)) ai) (aH (by refine @dS _ _ _ _ _ _ 6 _ _ cx.nd rfl (Or.inl rfl) ?_ rfl rfl (by first | exact .inl rfl | exact .inr rfl | assumption);refine bL.v ?_;refine aP.cz ?_;refine hV (ag 6) ?_;refine aP.r ?_;refine bS ?_;refine ao ?_ (aB);refine bo ?_ (PV.r (v_mod (PV.r (cy (ag 1) ai)) ai));refine aP.r ?_;exact bS (ao (gE (ao (ag 2) (ao ai aB))) (ao (gE (ao (PV.r (fJ ai)) (ao ai aB))) (ao (gE (ao (PV.r (v_add (ag 2) (ag 4))) (ao ai aB))) (ao (gE (ao (PV.r (v_sub (PV.r (fJ ai)) (PV.r (v_mul ai (ag 4))))) (ao ai aB))) aB))))) (aV (by refine @dS _ _ _ _ _ _ 6 _ _ cx.nd rfl (Or.inl rfl) ?_ rfl rfl (by first | exact .inl rfl | exact .inr rfl | assumption);refine bL.v ?_;refine aP.cz ?_;refine hV (ag 6) ?_;refine bo ?_ (PV.r (v_mod (PV.r (cy (ag 1) ai)) ai));refine aP.r ?_;refine bS ?_;exact (by refine ao (aP.r (bS aB)) ?_;refine ao (aP.r (bS (ao (gE (ao (PV.r (fJ ai)) (ao ai aB))) aB))) ?_;exact aB)))) (cJ);refine aH ?_ ?_;exact @dS _ _ _ _ _ _ 7 _ _ cx.nd rfl (Or.inl rfl) (PR.cl0 (bo (aP.r (bS (ao (PV.r (v_add ai (PV.r (v_mod (PV.r (cy (ag 1) ai)) ai)))) (ao (PV.r (v_add ai (PV.r (v_mod (PV.r (cy (ag 1) ai)) ai)))) (ao ai (ao (PV.r (v_sub (PV.r (fJ ai)) (ag 4))) aB)))))) (PV.r (v_mod (PV.r (cy (ag 1) ai)) ai)))) rfl rfl (by first | exact .inl rfl | exact .inr rfl | assumption);refine aH ?_ ?_;exact cD (bj (dq hr.units) (PV.r (v_mod (PV.r (cy (ag 1) (PV.r (v_pow ai ai)))) ai)) ai) (aV (@dS _ _ _ _ _ _ 2 _ _ cx.nd rfl (Or.inr rfl) (PR.cl0 (bo (aP.r (bS (ao ai (ao (PV.r (v_sub (PV.r (fJ ai)) (ag 4))) aB)))) (PV.r (v_mod (PV.r (cy (ag 1) (PV.r (v_pow ai ai)))) ai)))) rfl rfl (by first | exact .inl rfl | exact .inr rfl | assumption))) (cJ);refine aH ?_ ?_;exact @dS _ _ _ _ _ _ 8 _ _ cx.nd rfl (Or.inl rfl) (v_mod (PV.r (cy (ag 1) (PV.r (v_pow ai ai)))) ai) rfl rfl (by first | exact .inl rfl | exact .inr rfl | assumption);refine aH ?_ ?_;exact zm (i:=9)  (k:=1) (N:=["_law_number","_law_folk","_law_around"]) (ix:=[3,2]) cx.nd rfl (Or.inl rfl) (aL oG) rfl ⟨rfl,rfl,by decide +kernel,by decide +kernel,by decide +kernel,rfl,by decide +kernel,rfl⟩ rfl rfl (gR.raw (xh rfl T.m_range (ao (PV.r (dw dM rfl T.m_len dC (ao (ag 3) aB))) aB))) (fun _ _ _ _ _ _=>cC (i:=0) EU rfl (Or.inl rfl)) (fun _ _ _ _ _ _=>DK (fH (w_or (bj dO (bo (ag 1) (ag 0)) ai) (jM (bj jr (bo (ag 1) (ag 0)) (ag 2)))))) (fun _ _ _ _ _ _=>PV.r (aK 0));refine Jl (sh (i:=10) cx.nd rfl (Or.inl rfl) (bL.ft (aP.cz (bS aB)))) ?_;refine aH ?_ ?_;exact jF rfl (rB rfl T.m_enumerate (aK 6)) (n6 rfl (gz (cC (i:=11) cx.nd rfl (Or.inl rfl)) (gz (cC (i:=12) cx.nd rfl (Or.inl rfl)) lM))) (aV (cD (fH (w_or (bj dO (bo (ag 12) ai) ai) (jM (bj jr (bo (ag 12) ai) (PV.r (v_mul (ag 2) (bo (ag 12) ai))))))) (aV (oE (pv 10) (aK 11))) cJ)) PassesOwn.never;refine aH ?_ ?_;exact @dS _ _ _ _ _ _ 13 _ _ cx.nd rfl (Or.inl rfl) (bL.v (fV (aJ cH (aJ i4 bE)))) rfl rfl (by first | exact .inl rfl | exact .inr rfl | assumption);refine aH ?_ ?_;exact cD (fH (w_and (bj (dq hr.units) (ag 8) ai) (mq (bj (js hr.units) (ij (pv 10)) (aP.r (bS aB)))))) (aV (bt 13 cx.nd (bL.v (fV (aJ cH (aJ (PR.clf (bo (ij (pv 10)) ai)) bE)))))) (cJ);refine aH ?_ ?_;exact cD (fH (w_and (bj (dq hr.units) (ag 8) ai) (w_and (bj (dq hr.units) (ag 6) (aP.r (bS aB))) (mq (bj (js hr.units) (ag 3) (aP.r (bS aB))))))) (aV (bt 13 cx.nd (bL.v (fV (aJ cH (aJ i4 bE)))))) (cJ);refine aH ?_ ?_;exact cD (bj (js hr.units) (ag 9) (aP.r (bS aB))) (aV (bt 13 cx.nd (bL.v (fV (aJ cH (aJ (PR.clf (bo (ag 9) ai)) bE)))))) (cJ);refine aH ?_ ?_;exact cD (bj dO (ag 2) ai) (aV (bt 13 cx.nd (bL.v (fV (aJ cH (aJ i4 bE)))))) (cJ);refine aH ?_ ?_;exact cD (fH (w_and (J1 dO dO ai (ag 8) ai) (mq (bj dO (ag 7) ai)))) (aV (bt 13 cx.nd (bL.v (fV (aJ cH (aJ i4 bE)))))) (cJ);refine aH ?_ ?_;exact @dS _ _ _ _ _ _ 14 _ _ cx.nd rfl (Or.inl rfl) (jL AD hr.mn rfl (aJ (aK 8) (aJ (aK 2) (aJ (aK 3) (aJ (aK 6) (aJ (aK 7) bE)))))) rfl rfl (by first | exact .inl rfl | exact .inr rfl | assumption);refine aH ?_ ?_;exact cD (bj (dq hr.units) (bo (ag 13) ai) (PV.r cH)) (aV (bJ (PV.r (kQ BD (ag 14) (PV.r y8))))) (cJ);exact aV (bJ (HB (PV.r (kQ (dq hr.units) (cI AE hr.mn rfl (ao (ag 14) aB)) (bo (ag 13) ai))) (zg (HF (PV.r (Ki BE (bo (ag 13) ai) (aP.r (bS (ao (PV.r cH) (ao (PV.r cH) aB)))))) (zg (PV.r (kQ (dq hr.units) (HD FE_number (ag 14)) (bo (ag 13) ai)))))))))
theorem IV:bp ["self","number"] ["self","number"] (aL sS):=bN
theorem Kr {C fI CP:Addr}{fd:FuncData}(o:gp K "NoFolk" C fI)(F:aZ K "__init__" ("NoFolk"++".__init__") sS fI fd)(fl:jY K C "number")(b:pM K mg "PostError" CP):jf P w K mg base 1 fI C "number" j0:=
 wO (k:=0) o F IV (F.binds fun _ _ _ _ _ _ us hl=>eO (P:=fun us=>bindArgs _ ⟨us,[]⟩=pure (List.zip _ us)) hl fun _ _=>rfl) fl rfl (fun _=>rfl) (fun _=>rfl) (fun e cdv A outer s H hr=>⟨⟨rfl,b.mg,b.rd,b.fc,b.sp⟩,yJ l7 (yH (pv 1)) l7,pv 0,pv 0,pv 1,rfl,rfl,rfl,_,rfl⟩) (z6 (by decide) (by decide))
theorem IW:bp ["self","number"] ["self","number"] (aL sT):=bN
theorem Ks {C fI CP:Addr}{fd:FuncData}(o:gp K "NoPost" C fI)(F:aZ K "__init__" ("NoPost"++".__init__") sT fI fd)(fl:jY K C "number")(b:pM K mg "PostError" CP):jf P w K mg base 1 fI C "number" j0:=
 wO (k:=0) o F IW (F.binds fun _ _ _ _ _ _ us hl=>eO (P:=fun us=>bindArgs _ ⟨us,[]⟩=pure (List.zip _ us)) hl fun _ _=>rfl) fl rfl (fun _=>rfl) (fun _=>rfl) (fun e cdv A outer s H hr=>⟨⟨rfl,b.mg,b.rd,b.fc,b.sp⟩,yJ l7 (yH (pv 1)) l7,pv 0,pv 0,pv 1,rfl,rfl,rfl,_,rfl⟩) (z6 (by decide) (by decide))
end
theorem all_mk {l:PySem.W.OpenLaw}{w:World}{K:PySem.W.Frag}{h:Heap}{mg:Str->Option Value}{fa:Addr}(X:K.In h)(G:h.Ns mainGlobals mg)(hfa:mg "law"=some (.ref fa))
   (e_NoRing:kZ K "NoRing")
   (e_NoPosts:kZ K "NoPosts")
   (e_NoMany:kZ K "NoMany")
   (xa_NoFolk:ly K "NoFolk" "PostError" "number" sS)
   (xa_NoPost:ly K "NoPost" "PostError" "number" sT)
   (x_all:(lN K "PostError"&&(wb K aR (dP K "PostError")&&((["NoName","NoMany","NoLine","NoFolk","NoReach","NoPosts","NoPost","NoText","NoTable","NoRing","NoWord","NoWay","NoThing","PostError"]:List Str).all (wW K aR)&&(wX K aR&&(wt K aR "number"&&true)))))=true)
   (d0:FnAt K "_law_mix" su)
   (d1:FnAt K "_law_cell_at" sr)
   (d2:FnAt K "_law_ring" sv)
   (d3:FnAt K "check_ring" sE)
   (d4:FnAt K "check_posts" sD)
   (d5:FnAt K "check_ring_posts" sF)
   (d6:FnAt K "is_below" sM)
   (d7:FnAt K "greatest_of" sL)
   (d8:FnAt K "common_divisor" sG)
   (d9:FnAt K "fraction_of" sJ)
   (d10:FnAt K "way_round" sR)
   (d11:FnAt K "first_stand_from" sH)
   (d12:FnAt K "arcs_from" sx)
   (d13:FnAt K "fewest_arcs" oH)
   (d14:FnAt K "least_of" sN)
   (d15:FnAt K "way_to_nearest" oN)
   (d16:FnAt K "reach_by" oK)
   (d17:FnAt K "ring_reach" jH)
   (y17:("ring_reach":Str)∈cS l.prog) (t17:(PySem.W.tabIn K "ring_reach").isSome=true)
   (d18:FnAt K "check_many" sC)
   (d19:FnAt K "lengths_to_try" oJ)
   (d20:FnAt K "first_that_holds" sI)
   (d21:FnAt K "least_length" jG)
   (y21:("least_length":Str)∈cS l.prog) (t21:(PySem.W.tabIn K "least_length").isSome=true)
   (d22:FnAt K "ring_least" sP)
   (d23:FnAt K "ring_posts" mh)
   (d24:FnAt K "steps_from" sQ)
   (d25:FnAt K "ring_shown" oM)
   (d26:FnAt K "are_steps" sy)
   (d27:FnAt K "ring_holds" sO)
   (d28:FnAt K "_law_caught" sq)
   (d29:FnAt K "_law_class" oF)
   (d30:FnAt K "law" oG)
   (z_all:yg K ["ValueError","abs","enumerate","int","isinstance","len","min","range","set","sorted","sum","zip"]=true)
  :∃ fd:FuncData,(∀ (s:Shared) (v:Value),BindsTo s fd ⟨[v],[]⟩ [("_law_script",v)])∧∀ base:Heap,K.In base->base.Ns mainGlobals mg->aS l.prog w K mg base bc 9 fa fd ["_law_script"] (bB K .cl k6):=by
 have T:bH mg:=⟨fF X G z_all 0 rfl,fF X G z_all 1 rfl,fF X G z_all 2 rfl,fF X G z_all 3 rfl,fF X G z_all 4 rfl,fF X G z_all 5 rfl,fF X G z_all 6 rfl,fF X G z_all 7 rfl,fF X G z_all 8 rfl,fF X G z_all 9 rfl,fF X G z_all 10 rfl,fF X G z_all 11 rfl⟩
 obtain⟨c_PostError,x_all⟩:=gq x_all
 obtain⟨q_PostError,x_all⟩:=gq x_all
 obtain⟨i_all,x_all⟩:=gq x_all
 obtain⟨v_all,x_all⟩:=gq x_all
 obtain⟨fe_number,x_all⟩:=gq x_all
 have qF:gZ K mg "NoRing" _:=tS X G e_NoRing
 have qE:gZ K mg "NoPosts" _:=tS X G e_NoPosts
 have qD:gZ K mg "NoMany" _:=tS X G e_NoMany
 have P_PostError:=BW X G c_PostError q_PostError
 have I_NoName:IsT K mg aR "NoName" _:=eL X G i_all 0 rfl
 have I_NoMany:IsT K mg aR "NoMany" _:=eL X G i_all 1 rfl
 have I_NoLine:IsT K mg aR "NoLine" _:=eL X G i_all 2 rfl
 have I_NoFolk:IsT K mg aR "NoFolk" _:=eL X G i_all 3 rfl
 have I_NoReach:IsT K mg aR "NoReach" _:=eL X G i_all 4 rfl
 have I_NoPosts:IsT K mg aR "NoPosts" _:=eL X G i_all 5 rfl
 have I_NoPost:IsT K mg aR "NoPost" _:=eL X G i_all 6 rfl
 have I_NoText:IsT K mg aR "NoText" _:=eL X G i_all 7 rfl
 have I_NoTable:IsT K mg aR "NoTable" _:=eL X G i_all 8 rfl
 have I_NoRing:IsT K mg aR "NoRing" _:=eL X G i_all 9 rfl
 have I_NoWord:IsT K mg aR "NoWord" _:=eL X G i_all 10 rfl
 have I_NoWay:IsT K mg aR "NoWay" _:=eL X G i_all 11 rfl
 have I_NoThing:IsT K mg aR "NoThing" _:=eL X G i_all 12 rfl
 have I_PostError:IsT K mg aR "PostError" _:=eL X G i_all 13 rfl
 have I_ValueError:mQ K aR:=D6 v_all
 have FE_number:=CU fe_number
 have qB:∀ base:Heap,j_ l.prog w K mg base 1 "NoFolk" "number":=fun base=>xa_NoFolk.ok X G fun C fI CP fd o F fl b=>Kr o F fl b
 have qC:∀ base:Heap,j_ l.prog w K mg base 1 "NoPost" "number":=fun base=>xa_NoPost.ok X G fun C fI CP fd o F fl b=>Ks o F fl b
 have H_l_mix:∀ base:Heap,aW l.prog w K mg base 1 "_law_mix" ["_law_unit","_law_k"] .cl ff:=fun base=>d0.ok X G (fun _ _ _ _ _ _ us hl=>eO (P:=fun us=>bindArgs _ ⟨us,[]⟩=pure (List.zip _ us)) hl fun _ _=>rfl) fun f fd a F=>Fy F T 
 have H_l_cell_at:∀ base:Heap,aW l.prog w K mg base 1 "_law_cell_at" ["_law_script","_law_k"] .cl fM:=fun base=>d1.ok X G (fun _ _ _ _ _ _ us hl=>eO (P:=fun us=>bindArgs _ ⟨us,[]⟩=pure (List.zip _ us)) hl fun _ _=>rfl) fun f fd a F=>Fw F T 
 have H_l_ring:∀ base:Heap,aW l.prog w K mg base 2 "_law_ring" ["_law_script","_law_at","_law_most"] .cl iA:=fun base=>d2.ok X G (fun _ _ _ _ _ _ us hl=>fC (P:=fun us=>bindArgs _ ⟨us,[]⟩=pure (List.zip _ us)) hl fun _ _ _=>rfl) fun f fd a F=>Fz F T (H_l_mix base) (H_l_cell_at base)
 have H_p_check_ring:∀ base:Heap,bW l.prog w K mg base 3 "check_ring" ["around","folk"] .cl bU:=fun base=>d3.okX X G (fun _ _ _ _ _ _ us hl=>eO (P:=fun us=>bindArgs _ ⟨us,[]⟩=pure (List.zip _ us)) hl fun _ _=>rfl) fun f fd a F=>FG F T  qF (qB base)
 have H_p_check_posts:∀ base:Heap,bW l.prog w K mg base 1 "check_posts" ["folk","posts"] .cl fL:=fun base=>d4.okX X G (fun _ _ _ _ _ _ us hl=>eO (P:=fun us=>bindArgs _ ⟨us,[]⟩=pure (List.zip _ us)) hl fun _ _=>rfl) fun f fd a F=>FF F T  qE
 have H_p_check_ring_posts:∀ base:Heap,bW l.prog w K mg base 3 "check_ring_posts" ["around","posts"] .cl iy:=fun base=>d5.okX X G (fun _ _ _ _ _ _ us hl=>eO (P:=fun us=>bindArgs _ ⟨us,[]⟩=pure (List.zip _ us)) hl fun _ _=>rfl) fun f fd a F=>FH F T  (qC base)
 have H_p_is_below:∀ base:Heap,aW l.prog w K mg base 1 "is_below" ["one","other"] .cl iC:=fun base=>d6.ok X G (fun _ _ _ _ _ _ us hl=>eO (P:=fun us=>bindArgs _ ⟨us,[]⟩=pure (List.zip _ us)) hl fun _ _=>rfl) fun f fd a F=>FP F T 
 have H_p_greatest_of:∀ base:Heap,aW l.prog w K mg base 2 "greatest_of" ["several"] .cl jc:=fun base=>d7.ok X G (fun _ _ _ _ _ _ us hl=>kq (P:=fun us=>bindArgs _ ⟨us,[]⟩=pure (List.zip _ us)) hl fun _=>rfl) fun f fd a F=>FO F T (H_p_is_below base)
 have H_p_common_divisor:∀ base:Heap,aW l.prog w K mg base 1 "common_divisor" ["one","other"] .cl jT:=fun base=>d8.ok X G (fun _ _ _ _ _ _ us hl=>eO (P:=fun us=>bindArgs _ ⟨us,[]⟩=pure (List.zip _ us)) hl fun _ _=>rfl) fun f fd a F=>FI F T 
 have H_p_fraction_of:∀ base:Heap,aW l.prog w K mg base 2 "fraction_of" ["top","bottom"] .cl fN:=fun base=>d9.ok X G (fun _ _ _ _ _ _ us hl=>eO (P:=fun us=>bindArgs _ ⟨us,[]⟩=pure (List.zip _ us)) hl fun _ _=>rfl) fun f fd a F=>FN F T (H_p_common_divisor base)
 have H_p_way_round:∀ base:Heap,aW l.prog w K mg base 3 "way_round" ["around","place","post"] .cl jW:=fun base=>d10.ok X G (fun _ _ _ _ _ _ us hl=>fC (P:=fun us=>bindArgs _ ⟨us,[]⟩=pure (List.zip _ us)) hl fun _ _ _=>rfl) fun f fd a F=>F8 F T (H_p_fraction_of base)
 have H_p_first_stand_from:∀ base:Heap,aW l.prog w K mg base 1 "first_stand_from" ["around","places","number"] .cl iB:=fun base=>d11.ok X G (fun _ _ _ _ _ _ us hl=>fC (P:=fun us=>bindArgs _ ⟨us,[]⟩=pure (List.zip _ us)) hl fun _ _ _=>rfl) fun f fd a F=>FK F T 
 have H_p_arcs_from:∀ base:Heap,aW l.prog w K mg base 2 "arcs_from" ["around","places","length","first"] .cl jS:=fun base=>d12.ok X G (fun _ _ _ _ _ _ us hl=>rE (P:=fun us=>bindArgs _ ⟨us,[]⟩=pure (List.zip _ us)) hl fun _ _ _ _=>rfl) fun f fd a F=>FC F T (H_p_first_stand_from base)
 have H_p_fewest_arcs:∀ base:Heap,aW l.prog w K mg base 3 "fewest_arcs" ["around","places","length"] .cl gh:=fun base=>d13.ok X G (fun _ _ _ _ _ _ us hl=>fC (P:=fun us=>bindArgs _ ⟨us,[]⟩=pure (List.zip _ us)) hl fun _ _ _=>rfl) fun f fd a F=>FJ F T (H_p_arcs_from base)
 have H_p_least_of:∀ base:Heap,aW l.prog w K mg base 2 "least_of" ["several"] .cl jd:=fun base=>d14.ok X G (fun _ _ _ _ _ _ us hl=>kq (P:=fun us=>bindArgs _ ⟨us,[]⟩=pure (List.zip _ us)) hl fun _=>rfl) fun f fd a F=>FR F T (H_p_is_below base)
 have HA:∀ base:Heap,i7 l.prog w K mg base 4 FT:=fun base=>ve ((C7 T (H_p_way_round base)).mono (by decide)) (ve ((C6 T (H_p_fewest_arcs base)).mono (by decide)) (Bg))
 have H_p_way_to_nearest:∀ base:Heap,aW l.prog w K mg base 5 "way_to_nearest" ["way","one","posts"] .cl jX:=fun base=>d15.ok X G (fun _ _ _ _ _ _ us hl=>fC (P:=fun us=>bindArgs _ ⟨us,[]⟩=pure (List.zip _ us)) hl fun _ _ _=>rfl) fun f fd a F=>F9 F T (H_p_least_of base) (HA base)
 have H_p_reach_by:∀ base:Heap,aW l.prog w K mg base 6 "reach_by" ["way","folk","posts"] .cl je:=fun base=>d16.ok X G (fun _ _ _ _ _ _ us hl=>fC (P:=fun us=>bindArgs _ ⟨us,[]⟩=pure (List.zip _ us)) hl fun _ _ _=>rfl) fun f fd a F=>FW F T (H_p_greatest_of base) (H_p_way_to_nearest base)
 have H_p_ring_reach:∀ base:Heap,bW l.prog w K mg base 7 "ring_reach" ["around","folk","posts"] .cl gg:=fun base=>d17.okX X G (fun _ _ _ _ _ _ us hl=>fC (P:=fun us=>bindArgs _ ⟨us,[]⟩=pure (List.zip _ us)) hl fun _ _ _=>rfl) fun f fd a F=>F5 F T (H_p_check_ring base) (H_p_check_posts base) (H_p_check_ring_posts base) (H_p_reach_by base) y17 t17 a
 have H_p_check_many:∀ base:Heap,bW l.prog w K mg base 1 "check_many" ["many"] .cl dA:=fun base=>d18.okX X G (fun _ _ _ _ _ _ us hl=>kq (P:=fun us=>bindArgs _ ⟨us,[]⟩=pure (List.zip _ us)) hl fun _=>rfl) fun f fd a F=>FE F T  qD
 have H_p_lengths_to_try:∀ base:Heap,aW l.prog w K mg base 1 "lengths_to_try" ["around","places"] .cl jV:=fun base=>d19.ok X G (fun _ _ _ _ _ _ us hl=>eO (P:=fun us=>bindArgs _ ⟨us,[]⟩=pure (List.zip _ us)) hl fun _ _=>rfl) fun f fd a F=>FU F T 
 have H_p_first_that_holds:∀ base:Heap,aW l.prog w K mg base 5 "first_that_holds" ["holds","several"] .cl jU:=fun base=>d20.ok X G (fun _ _ _ _ _ _ us hl=>eO (P:=fun us=>bindArgs _ ⟨us,[]⟩=pure (List.zip _ us)) hl fun _ _=>rfl) fun f fd a F=>FL F T  (HA base)
 have H_p_least_length:∀ base:Heap,aW l.prog w K mg base 6 "least_length" ["around","places","many"] .cl eW:=fun base=>d21.ok X G (fun _ _ _ _ _ _ us hl=>fC (P:=fun us=>bindArgs _ ⟨us,[]⟩=pure (List.zip _ us)) hl fun _ _ _=>rfl) fun f fd a F=>FQ F T (H_p_lengths_to_try base) (H_p_first_that_holds base) y21 t21 a
 have H_p_ring_least:∀ base:Heap,bW l.prog w K mg base 7 "ring_least" ["around","folk","many"] .cl gH:=fun base=>d22.okX X G (fun _ _ _ _ _ _ us hl=>fC (P:=fun us=>bindArgs _ ⟨us,[]⟩=pure (List.zip _ us)) hl fun _ _ _=>rfl) fun f fd a F=>FZ F T (H_p_check_many base) (H_p_check_ring base) (H_p_fraction_of base) (H_p_least_length base)
 have H_p_ring_posts:∀ base:Heap,bW l.prog w K mg base 7 "ring_posts" ["around","folk","many"] (.lst .cl) gJ:=fun base=>d23.okX X G (fun _ _ _ _ _ _ us hl=>fC (P:=fun us=>bindArgs _ ⟨us,[]⟩=pure (List.zip _ us)) hl fun _ _ _=>rfl) fun f fd a F=>F0 F T (H_p_check_many base) (H_p_check_ring base) (H_p_least_length base) (H_p_fraction_of base) (H_p_fewest_arcs base)
 have H_p_steps_from:∀ base:Heap,aW l.prog w K mg base 2 "steps_from" ["around","places","length","first","count"] (.lst .cl) iD:=fun base=>d24.ok X G (fun _ _ _ _ _ _ us hl=>rF (P:=fun us=>bindArgs _ ⟨us,[]⟩=pure (List.zip _ us)) hl fun _ _ _ _ _=>rfl) fun f fd a F=>F7 F T (H_p_first_stand_from base)
 have H_p_ring_shown:∀ base:Heap,bW l.prog w K mg base 7 "ring_shown" ["around","folk","many"] (.lst (.lst .cl)) gK:=fun base=>d25.okX X G (fun _ _ _ _ _ _ us hl=>fC (P:=fun us=>bindArgs _ ⟨us,[]⟩=pure (List.zip _ us)) hl fun _ _ _=>rfl) fun f fd a F=>F6 F T (H_p_check_many base) (H_p_check_ring base) (H_p_least_length base) (H_p_steps_from base)
 have H_p_are_steps:∀ base:Heap,aW l.prog w K mg base 3 "are_steps" ["around","places","length","first","row"] .cl mF:=fun base=>d26.ok X G (fun _ _ _ _ _ _ us hl=>rF (P:=fun us=>bindArgs _ ⟨us,[]⟩=pure (List.zip _ us)) hl fun _ _ _ _ _=>rfl) fun f fd a F=>FD F T (H_p_steps_from base)
 have H_p_ring_holds:∀ base:Heap,bW l.prog w K mg base 4 "ring_holds" ["around","folk","reach","rows"] .cl iz:=fun base=>d27.okX X G (fun _ _ _ _ _ _ us hl=>rE (P:=fun us=>bindArgs _ ⟨us,[]⟩=pure (List.zip _ us)) hl fun _ _ _ _=>rfl) fun f fd a F=>FY F T (H_p_check_ring base) (H_p_are_steps base)
 have H_l_caught:∀ base:Heap,aW l.prog w K mg base 8 "_law_caught" ["_law_way","_law_around","_law_folk","_law_posts","_law_many"] .cl jb:=fun base=>d28.ok X G (fun _ _ _ _ _ _ us hl=>rF (P:=fun us=>bindArgs _ ⟨us,[]⟩=pure (List.zip _ us)) hl fun _ _ _ _ _=>rfl) fun f fd a F=>Fv F T (H_p_ring_reach base) (H_p_ring_least base) (H_p_ring_posts base) (H_p_ring_shown base) (H_p_ring_holds base) P_PostError
 have H_l_class:∀ base:Heap,aW l.prog w K mg base 1 "_law_class" ["_law_kept"] .cl dW:=fun base=>d29.ok X G (fun _ _ _ _ _ _ us hl=>kq (P:=fun us=>bindArgs _ ⟨us,[]⟩=pure (List.zip _ us)) hl fun _=>rfl) fun f fd a F=>Fx F T  I_NoName I_NoMany I_NoLine I_NoFolk I_NoReach I_NoPosts I_NoPost I_NoText I_NoTable I_NoRing I_NoWord I_NoWay I_NoThing I_PostError I_ValueError
 exact d30.law X G hfa (fun _ _ _ _ _ _ s v=>.of_eq rfl) fun base f fd F=>FA F T (H_l_mix base) (H_l_ring base) (H_l_caught base) (H_l_cell_at base) (H_l_class base) FE_number
theorem KW:cS PySem.Challenge.rw_nearposts_k24_rings_refused.prog=(["ring_reach","least_length"]:List Str):=by decide +kernel
theorem walk {l:PySem.W.OpenLaw}{q:Program}{loose:List Str}{XP:(Str->Option Value)->Heap->Prop}{YP:World->Heap->Prop}{d:DefRec}{K:Params->PySem.W.Frag}(hn:l.most=some 63)(hdf:d.params.defaults=[])(hq:∀ y∈cS l.prog,((recsOf q).find? fun e=>e.name==y).isSome=true)(hTK:∀ (w:World) (y:Str) (c p:Addr),y∈cS l.prog->PySem.W.tabIn (K w.params) y=some (c,p)->(K w.params).lookup p=none)
  (hY:∀ (w:World) (h:Heap),YP w h->(K w.params).In h)
  (F:∀ (w:World) (mg:Str->Option Value) (fa:Addr) (h:Heap),(K w.params).In h->h.Ns mainGlobals mg->mg d.name=some (.ref fa) ->
   ∃ fd:FuncData,(∀ (s:Shared) (u:Value),BindsTo s fd ⟨[u],[]⟩ [("_law_script",u)])∧∀ base:Heap,(K w.params).In base->base.Ns mainGlobals mg->aS l.prog w (K w.params) mg base bc 9 fa fd ["_law_script"] (bB (K w.params) .cl k6)) :
  PySem.W.WalkO q loose XP YP l.row.toRowW d [] (fun f vs=>PySem.call f vs):=
 L2.Kn (n:=63) (k:=9) (x:="_law_script") (CX:=fun _=>bc) (sp:=fun w=>bB (K w.params) .cl k6) hn (by decide) hdf ⟨rfl,by decide,by decide,rfl⟩ hY hq hTK F (fun _ H a ns hl hS=>⟨fun _=>False,[.list (ns.map .int)],.bool true,fun _ z=>z.elim,by rw[Cq];exact .cons (.lst hS (ar.ints ns)) .nil,main ns hl,fun v as H' _ _ D=>jv D.den⟩) fun _ _ _ _ _ z=>z
end NW
open PySem PySem.W PyProof.Rows
theorem PySem.W.Fast.tw13912270424069827212:True:=trivial
theorem PySem.W.Fast.tw123550529401291326:True:=trivial
theorem PySem.W.Fast.tw13130034751289098766:True:=trivial
theorem PySem.W.Fast.tw12676691656243190823:True:=trivial
theorem PySem.W.Fast.tw147163691974389588:True:=trivial
theorem PySem.W.Fast.tw11377792314328777433:True:=trivial
theorem PySem.W.Fast.tw13730681301142399324:True:=trivial
theorem PySem.W.Fast.tw3813687576287971421:True:=trivial
theorem PySem.W.Fast.tw12535464621552971832:True:=trivial
theorem PySem.W.Fast.tw8812765628429557429:True:=trivial
theorem PySem.W.Fast.tw11527202647050600443:True:=trivial
theorem PySem.W.Fast.tw10810416354568228745:True:=trivial
theorem PySem.W.Fast.tw17353171078580471473:True:=trivial
theorem PySem.W.Fast.tw10249819969594540801:True:=trivial
theorem PySem.W.Fast.tw1606708426748096579:True:=trivial
theorem PySem.W.Fast.tw3255032387161613391:True:=trivial
theorem PySem.W.Fast.tw10244708362633280300:True:=trivial
theorem PySem.W.Fast.tw8133724638702996902:True:=trivial
theorem PySem.W.Fast.tw13318672261598277544:True:=trivial
theorem PySem.W.Fast.tw7236669304384843151:True:=trivial
theorem PySem.W.Fast.tw10880499458337736669:True:=trivial
set_option maxRecDepth 100000 in
set_option maxHeartbeats 0 in
theorem PySem.Challenge.cw_nearposts_k24_rings_refused_holds : PySem.Challenge.rw_nearposts_k24_rings_refused.Holds := by
  w_on; o_law; k_head; (case hw=>w_witness2)
  k_fill
  refine NW.walk (l:=PySem.Challenge.rw_nearposts_k24_rings_refused) rfl rfl ?Q ?K (fun w h Y=>PySem.W.km_in_of Y) ?F
  case Q=>exact L2.KZ (by rw [NW.KW]; kernel_rfl)
  case K=>exact fun w=>L2.KY (by rw [NW.KW]; kernel_rfl)
  case F=>
    intro w mg fa h KX G hmg
    refine' NW.all_mk KX G hmg ?e_NoRing ?e_NoPosts ?e_NoMany ?xa_NoFolk ?xa_NoPost ?x_all ?d0 ?d1 ?d2 ?d3 ?d4 ?d5 ?d6 ?d7 ?d8 ?d9 ?d10 ?d11 ?d12 ?d13 ?d14 ?d15 ?d16 ?d17 ?y17 ?t17 ?d18 ?d19 ?d20 ?d21 ?y21 ?t21 ?d22 ?d23 ?d24 ?d25 ?d26 ?d27 ?d28 ?d29 ?d30 ?z_all
    (case e_NoRing=>refine' L2.kZ.mk _ ?en (L2.jm.of ?el ?ee ?et ?eo ?ei); (case en=>k_is); (case el=>k_is); (case ee=>rfl); (case et=>kernel_rfl); (case eo=>kernel_rfl); (case ei=>kernel_rfl))
    (case e_NoPosts=>refine' L2.kZ.mk _ ?en (L2.jm.of ?el ?ee ?et ?eo ?ei); (case en=>k_is); (case el=>k_is); (case ee=>rfl); (case et=>kernel_rfl); (case eo=>kernel_rfl); (case ei=>kernel_rfl))
    (case e_NoMany=>refine' L2.kZ.mk _ ?en (L2.jm.of ?el ?ee ?et ?eo ?ei); (case en=>k_is); (case el=>k_is); (case ee=>rfl); (case et=>kernel_rfl); (case eo=>kernel_rfl); (case ei=>kernel_rfl))
    (case xa_NoFolk=>refine' L2.ly.mk 116 113 24 _ ⟨?xn,L2.nE.of ?xl ?xe ?xt ?xo ?xi⟩ (L2.KU ?xf ?xc ?xk) ?xg ⟨?xs,?xv,?xw⟩ ?xb ?xr ?xd ?xp; (case xn=>k_is); (case xl=>k_is); (case xe=>rfl); (case xt=>kernel_rfl); (case xo=>kernel_rfl); (case xi=>k_is); (case xf=>k_is); (case xc=>k_is); (case xk=>k_is); (case xg=>kernel_rfl); (case xs=>kernel_rfl); (case xv=>kernel_rfl); (case xw=>kernel_rfl); (case xb=>k_is); (case xr=>kernel_rfl); (case xd=>kernel_rfl); (case xp=>kernel_rfl))
    (case xa_NoPost=>refine' L2.ly.mk 135 132 24 _ ⟨?xn,L2.nE.of ?xl ?xe ?xt ?xo ?xi⟩ (L2.KU ?xf ?xc ?xk) ?xg ⟨?xs,?xv,?xw⟩ ?xb ?xr ?xd ?xp; (case xn=>k_is); (case xl=>k_is); (case xe=>rfl); (case xt=>kernel_rfl); (case xo=>kernel_rfl); (case xi=>k_is); (case xf=>k_is); (case xc=>k_is); (case xk=>k_is); (case xg=>kernel_rfl); (case xs=>kernel_rfl); (case xv=>kernel_rfl); (case xw=>kernel_rfl); (case xb=>k_is); (case xr=>kernel_rfl); (case xd=>kernel_rfl); (case xp=>kernel_rfl))
    (case x_all=>kernel_rfl)
    (case d0=>refine' L2.FnAt.mk _ _ ?a (L2.KU ?l ?c ?k); (case a=>k_is); (case l=>k_is); (case c=>k_is); (case k=>k_is))
    (case d1=>refine' L2.FnAt.mk _ _ ?a (L2.KU ?l ?c ?k); (case a=>k_is); (case l=>k_is); (case c=>k_is); (case k=>k_is))
    (case d2=>refine' L2.FnAt.mk _ _ ?a (L2.KU ?l ?c ?k); (case a=>k_is); (case l=>k_is); (case c=>k_is); (case k=>k_is))
    (case d3=>refine' L2.FnAt.mk _ _ ?a (L2.KU ?l ?c ?k); (case a=>k_is); (case l=>k_is); (case c=>k_is); (case k=>k_is))
    (case d4=>refine' L2.FnAt.mk _ _ ?a (L2.KU ?l ?c ?k); (case a=>k_is); (case l=>k_is); (case c=>k_is); (case k=>k_is))
    (case d5=>refine' L2.FnAt.mk _ _ ?a (L2.KU ?l ?c ?k); (case a=>k_is); (case l=>k_is); (case c=>k_is); (case k=>k_is))
    (case d6=>refine' L2.FnAt.mk _ _ ?a (L2.KU ?l ?c ?k); (case a=>k_is); (case l=>k_is); (case c=>k_is); (case k=>k_is))
    (case d7=>refine' L2.FnAt.mk _ _ ?a (L2.KU ?l ?c ?k); (case a=>k_is); (case l=>k_is); (case c=>k_is); (case k=>k_is))
    (case d8=>refine' L2.FnAt.mk _ _ ?a (L2.KU ?l ?c ?k); (case a=>k_is); (case l=>k_is); (case c=>k_is); (case k=>k_is))
    (case d9=>refine' L2.FnAt.mk _ _ ?a (L2.KU ?l ?c ?k); (case a=>k_is); (case l=>k_is); (case c=>k_is); (case k=>k_is))
    (case d10=>refine' L2.FnAt.mk _ _ ?a (L2.KU ?l ?c ?k); (case a=>k_is); (case l=>k_is); (case c=>k_is); (case k=>k_is))
    (case d11=>refine' L2.FnAt.mk _ _ ?a (L2.KU ?l ?c ?k); (case a=>k_is); (case l=>k_is); (case c=>k_is); (case k=>k_is))
    (case d12=>refine' L2.FnAt.mk _ _ ?a (L2.KU ?l ?c ?k); (case a=>k_is); (case l=>k_is); (case c=>k_is); (case k=>k_is))
    (case d13=>refine' L2.FnAt.mk _ _ ?a (L2.KU ?l ?c ?k); (case a=>k_is); (case l=>k_is); (case c=>k_is); (case k=>k_is))
    (case d14=>refine' L2.FnAt.mk _ _ ?a (L2.KU ?l ?c ?k); (case a=>k_is); (case l=>k_is); (case c=>k_is); (case k=>k_is))
    (case d15=>refine' L2.FnAt.mk _ _ ?a (L2.KU ?l ?c ?k); (case a=>k_is); (case l=>k_is); (case c=>k_is); (case k=>k_is))
    (case d16=>refine' L2.FnAt.mk _ _ ?a (L2.KU ?l ?c ?k); (case a=>k_is); (case l=>k_is); (case c=>k_is); (case k=>k_is))
    (case d17=>refine' L2.FnAt.mk _ _ ?a (L2.KU ?l ?c ?k); (case a=>k_is); (case l=>k_is); (case c=>k_is); (case k=>k_is))
    (case y17=>rw [NW.KW]; decide)
    (case t17=>kernel_rfl)
    (case d18=>refine' L2.FnAt.mk _ _ ?a (L2.KU ?l ?c ?k); (case a=>k_is); (case l=>k_is); (case c=>k_is); (case k=>k_is))
    (case d19=>refine' L2.FnAt.mk _ _ ?a (L2.KU ?l ?c ?k); (case a=>k_is); (case l=>k_is); (case c=>k_is); (case k=>k_is))
    (case d20=>refine' L2.FnAt.mk _ _ ?a (L2.KU ?l ?c ?k); (case a=>k_is); (case l=>k_is); (case c=>k_is); (case k=>k_is))
    (case d21=>refine' L2.FnAt.mk _ _ ?a (L2.KU ?l ?c ?k); (case a=>k_is); (case l=>k_is); (case c=>k_is); (case k=>k_is))
    (case y21=>rw [NW.KW]; decide)
    (case t21=>kernel_rfl)
    (case d22=>refine' L2.FnAt.mk _ _ ?a (L2.KU ?l ?c ?k); (case a=>k_is); (case l=>k_is); (case c=>k_is); (case k=>k_is))
    (case d23=>refine' L2.FnAt.mk _ _ ?a (L2.KU ?l ?c ?k); (case a=>k_is); (case l=>k_is); (case c=>k_is); (case k=>k_is))
    (case d24=>refine' L2.FnAt.mk _ _ ?a (L2.KU ?l ?c ?k); (case a=>k_is); (case l=>k_is); (case c=>k_is); (case k=>k_is))
    (case d25=>refine' L2.FnAt.mk _ _ ?a (L2.KU ?l ?c ?k); (case a=>k_is); (case l=>k_is); (case c=>k_is); (case k=>k_is))
    (case d26=>refine' L2.FnAt.mk _ _ ?a (L2.KU ?l ?c ?k); (case a=>k_is); (case l=>k_is); (case c=>k_is); (case k=>k_is))
    (case d27=>refine' L2.FnAt.mk _ _ ?a (L2.KU ?l ?c ?k); (case a=>k_is); (case l=>k_is); (case c=>k_is); (case k=>k_is))
    (case d28=>refine' L2.FnAt.mk _ _ ?a (L2.KU ?l ?c ?k); (case a=>k_is); (case l=>k_is); (case c=>k_is); (case k=>k_is))
    (case d29=>refine' L2.FnAt.mk _ _ ?a (L2.KU ?l ?c ?k); (case a=>k_is); (case l=>k_is); (case c=>k_is); (case k=>k_is))
    (case d30=>refine' L2.FnAt.mk _ _ ?a (L2.KU ?l ?c ?k); (case a=>k_is); (case l=>k_is); (case c=>k_is); (case k=>k_is))
    (case z_all=>kernel_rfl)

