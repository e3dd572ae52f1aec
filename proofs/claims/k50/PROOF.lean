import PyProof.Rows.All
import Wide.All
import OpenK.AllK
import Wide.FinOn
import Lean
import PyProof.EqAt
import PyProof.EqKinds
import PyProof.TupleCall
import KE.KRevIter
import KE.KMinKey
import KE.KIntText
import PySem.Challenge.RW_nearposts_k50_folk_that_come
set_option linter.all false
noncomputable section
namespace L2
theorem no_ns {α:Type _}{a:α}{G:Prop}(h:none=some a):G:=nomatch h
theorem no_sn {α:Type _}{a:α}{G:Prop}(h:some a=none):G:=nomatch h
theorem no_ft {G:Prop}(h:false=true):G:=nomatch h
end L2
set_option Elab.async false
set_option maxRecDepth 100000
open PySem PySem.Spec PyProof.Rows
namespace L2
abbrev Key:=Sum Int Str
def keyIs:Key->Value->Bool
 | .inl k,v=>Value.isInt k v
 | .inr x,v=>Value.isStrOf x v
def keyH (w:World):Key->Int
 | .inl k=>hashInt k
 | .inr x=>hashStr w x
theorem keyIs_shape:∀ {k:Key} {v:Value},keyIs k v=true->(∃ i t,k=Sum.inl i∧v=Value.int i t)∨(∃ x t,k=Sum.inr x∧v=Value.str x t)
 | .inl i,v,h=>by
  obtain⟨t,e⟩:=Value.isInt_shape (k:=i) (v:=v) h
  exact .inl ⟨i,t,rfl,e⟩
 | .inr x,v,h=>by
  obtain⟨t,e⟩:=Value.isStrOf_shape (x:=x) (v:=v) h
  exact .inr ⟨x,t,rfl,e⟩
theorem keyIs_int (i:Int)(t:Tok):keyIs (.inl i) (.int i t)=true:=by simp[keyIs,Value.isInt]
theorem keyIs_str (x:Str)(t:Tok):keyIs (.inr x) (.str x t)=true:=by simp[keyIs,Value.isStrOf]
theorem key_ll (a b:Int):decide ((Sum.inl a:Key)=Sum.inl b)=(a==b):=by
 by_cases e:a=b
 ·subst e;simp
 ·have h:¬ (Sum.inl a:Key)=Sum.inl b:=fun q=>e (Sum.inl.inj q)
  rw[decide_eq_false h]
  exact (beq_eq_false_iff_ne.mpr e).symm
theorem key_rr (a b:Str):decide ((Sum.inr a:Key)=Sum.inr b)=decide (a=b):=by
 by_cases e:a=b
 ·subst e;simp
 ·have h:¬ (Sum.inr a:Key)=Sum.inr b:=fun q=>e (Sum.inr.inj q)
  rw[decide_eq_false h,decide_eq_false e]
theorem key_lr (a:Int)(b:Str):decide ((Sum.inl a:Key)=Sum.inr b)=false:=decide_eq_false (fun q=>nomatch q)
theorem key_rl (a:Str)(b:Int):decide ((Sum.inr a:Key)=Sum.inl b)=false:=decide_eq_false (fun q=>nomatch q)
def mixKind (prog:Program)(w:World):PySem.KeyKind prog w Key where
 is:=keyIs
 hash:=keyH w
 inj:=fun v a b ha hb=>by
  rcases keyIs_shape ha with ⟨i,t,rfl,rfl⟩ | ⟨x,t,rfl,rfl⟩
  ·rcases keyIs_shape hb with ⟨j,u,rfl,e⟩ | ⟨y,u,rfl,e⟩
   ·injection e with e1 _;rw[e1]
   ·exact nomatch e
  ·rcases keyIs_shape hb with ⟨j,u,rfl,e⟩ | ⟨y,u,rfl,e⟩
   ·exact nomatch e
   ·injection e with e1 _;rw[e1]
 byValue:=fun k v h=>by
  rcases keyIs_shape h with ⟨i,t,rfl,rfl⟩ | ⟨x,t,rfl,rfl⟩ <;> rfl
 pyHash:=fun hv h=>by
  rcases keyIs_shape hv with ⟨i,t,rfl,rfl⟩ | ⟨x,t,rfl,rfl⟩
  ·exact wpAny_pyHash_int h
  ·exact wpAny_pyHash_str h
 eqBool:=fun hu hv h=>by
  rcases keyIs_shape hu with ⟨i,t,rfl,rfl⟩ | ⟨x,t,rfl,rfl⟩
  ·rcases keyIs_shape hv with ⟨j,u,rfl,rfl⟩ | ⟨y,u,rfl,rfl⟩
   ·rw[key_ll] at h;exact wpAny_eqBool_int h
   ·rw[key_lr] at h;exact SeqAt.EqAt.int_str i t y u _ _ _ _ h
  ·rcases keyIs_shape hv with ⟨j,u,rfl,rfl⟩ | ⟨y,u,rfl,rfl⟩
   ·rw[key_rl] at h;exact SeqAt.EqAt.str_int x t j u _ _ _ _ h
   ·rw[key_rr] at h;exact wpAny_eqBool_str h
 «strs»:=fun k x t v h=>by
  rcases keyIs_shape h with ⟨i,u,rfl,e⟩ | ⟨y,u,rfl,e⟩
  ·exact nomatch e
  ·injection e with e1 _
   subst e1
   cases v <;> rfl
theorem mixKind_int (prog:Program)(w:World)(i:Int)(t:Tok):(mixKind prog w).is (.inl i) (.int i t)=true:=keyIs_int i t
theorem mixKind_str (prog:Program)(w:World)(x:Str)(t:Tok):(mixKind prog w).is (.inr x) (.str x t)=true:=keyIs_str x t
end L2
namespace L2
inductive V where
 | non | bl (b:Bool) | int (i:Int) | str (x:Str) | byt (b:Array UInt8) | flt (b:UInt64) | ref (a:Addr) | ty (n:String)
 deriving DecidableEq
def RelV:V->Value->Prop
 | .non,u=>u=Value.none
 | .bl b,u=>u=Value.bool b
 | .int i,u=>∃ t,u=Value.int i t
 | .str x,u=>∃ t,u=Value.str x t
 | .byt b,u=>∃ t,u=Value.bytes b t
 | .flt b,u=>∃ t,u=Value.float b t
 | .ref a,u=>u=Value.ref a
 | .ty n,u=>u=Value.type n
abbrev Vals:List V->List Value->Prop:=Paired RelV
theorem Vals.length {xs:List V}{us:List Value}(r:Vals xs us):xs.length=us.length:=Paired.length r
theorem Vals.get:∀ {xs:List V} {us:List Value} {i:Nat} {x:V},Vals xs us->xs[i]?=some x->∃ u,us[i]?=some u∧RelV x u
 | _,_,_,_,.nil,e=>by simp at e
 | _,_,0,_,.cons r _,e=>by simp at e;subst e;exact⟨_,rfl,r⟩
 | _,_,i+1,x,.cons _ t,e=>by
  obtain⟨u,h1,h2⟩:=Vals.get (i:=i) (x:=x) t (by simpa using e)
  exact⟨u,by simpa using h1,h2⟩
theorem Vals.set {x:V}{u:Value}(r:RelV x u):∀ {xs:List V} {us:List Value} (i:Nat),Vals xs us->Vals (xs.set i x) (us.set i u)
 | _,_,_,.nil=>.nil
 | _,_,0,.cons _ t=>.cons r t
 | _,_,i+1,.cons q t=>.cons q (Vals.set r i t)
theorem Vals.append {xs ys:List V}{us ws:List Value}(h:Vals xs us)(s:Vals ys ws):Vals (xs++ys) (us++ws):=by
 induction h with
 | nil=>exact s
 | cons r t ih=>exact .cons r ih
theorem Vals.take:∀ {xs:List V} {us:List Value} (n:Nat),Vals xs us->Vals (xs.take n) (us.take n)
 | _,_,0,_=>.nil
 | _,_,_+1,.nil=>.nil
 | _,_,n+1,.cons r t=>.cons r (Vals.take n t)
theorem Vals.drop:∀ {xs:List V} {us:List Value} (n:Nat),Vals xs us->Vals (xs.drop n) (us.drop n)
 | _,_,0,r=>r
 | _,_,_+1,.nil=>.nil
 | _,_,n+1,.cons _ t=>Vals.drop n t
theorem Vals.none_of:∀ {xs:List V} {us:List Value} {i:Nat},Vals xs us->xs[i]?=none->us[i]?=none:=fun {xs us i} r e=>by
 have h1:=r.length
 have h2:xs.length≤i:=List.getElem?_eq_none_iff.mp e
 exact List.getElem?_eq_none_iff.mpr (by omega)
def RelO:Option V->Option Value->Prop
 | some v,some u=>RelV v u
 | none,none=>True
 | _,_=>False
def KV {κ:Type}:List (κ×V)->List (κ×Value)->Prop:=Paired fun (p:κ×V) (q:κ×Value)=>p.1=q.1∧RelV p.2 q.2
def kV:Key->V
 | .inl i=>.int i
 | .inr x=>.str x
inductive HO where
 /-- a list -/
 | lst (xs:List V)
 /-- a tuple (never changes) -/
 | tup (xs:List V)
 /-- a dict whose keys are ints and texts;one whose keys are tuples of ints and texts (the empty one is both) -/
 | dK (kvs:List (Key×V)) | dT (kvs:List (List Key×V))
 /-- a set of ints: its members,its size -/
 | set (S:Int->Bool) (n:Nat)
 /-- an instance of the class at C,its dict at dx,its attributes -/
 | ins (C dx:Addr) (fs:List (Str×V))
 /-- the dict of the instance at x -/
 | own (x:Addr)
 /-- the dict of an exception -/
 | xd (fs:List (Str×V))
 /-- a bound method,f of x -/
 | met (f x:Addr)
 /-- a range object lo,lo+1,.. below hi -/
 | rng (lo hi:Int)
 /-- a thing that is known to the object (the script;a dict while a loop walks it): read,never written while it is so -/
 | frz (o:Obj) (u:HO)
 /-- a code object's table -/
 | tbl (ps:Array Value)
 | tab
 /-- any other thing,by what is true of its one object (a def of one's own: SetO a S n:=HO.ext fun h=>..) -/
 | ext (φ:Heap->Prop)
abbrev Hp:=Addr->Option HO
def upd (H:Hp)(a:Addr)(o:HO):Hp:=fun b=>if b=a then some o else H b
theorem upd_same {H:Hp}{a:Addr}{o:HO}:upd H a o a=some o:=by unfold upd;rw[if_pos rfl]
theorem upd_ne {H:Hp}{a b:Addr}{o:HO}(h:b≠a):upd H a o b=H b:=by unfold upd;rw[if_neg h]
theorem ne_of {H:Hp}{a b:Addr}{o u:HO}(h:H a=some o)(h':H b=some u)(d:o≠u):a≠b:=by
 intro e;subst e;rw[h] at h';exact d (Option.some.inj h')
theorem ne_of_none {H:Hp}{a b:Addr}{o:HO}(h:H a=some o)(h':H b=none):a≠b:=by
 intro e;subst e;rw[h] at h';cases h'
section
variable (P:Program)(w:World)
def ObjOk (H:Hp)(h:Heap)(a:Addr):HO->Prop
 | .lst xs=>xs.length≤sizeLine∧∃ (its:List Value) (n:Nat),Vals xs its∧h.get? a=some { cls:=.type "list",data:=.seq its.toArray n }
 | .tup xs=>xs.length≤sizeLine∧∃ its:List Value,Vals xs its∧IsTup h a its.toArray
 | .dK kvs=>kvs.length≤sizeLine∧(a==sysModules)=false∧∃ vs,KV kvs vs∧h.DictOf (mixKind P w) a vs
 | .dT kvs=>kvs.length≤sizeLine∧(a==sysModules)=false∧∃ xs:List (List Key×Addr×Value),
  Paired (fun (p:List Key×V) (q:List Key×Addr×Value)=>p.1=q.1∧H q.2.1=some (.tup (p.1.map kV))∧RelV p.2 q.2.2) kvs xs ∧
  ∃ o es ep,h.get? a=some o∧o.ExactDict∧o.data=.dict es ep∧es.toList=xs.map (entryOfKey (tupleKind (mixKind P w)))∧(xs.map (·.1)).Nodup
 | .set S n=>h.SetOf (intKind P w) a S n
 | .ins C dx fs=>H dx=some (.own a)∧fs.length≤1000∧dx≠a∧h.get? a=some (PySem.W.instObj C dx) ∧
  ∃ mA,h.Ns1 dx mA∧(∀ f,RelO (fs.lookup f) (mA f))∧PySem.Within mA (fs.map (·.1))
 | .own _=>∃ o,h.get? a=some o
 | .xd fs=>∃ mA,h.Ns1 a mA∧∀ f,RelO (fs.lookup f) (mA f)
 | .rng lo hi=>∃ t u v,h.get? a=some { cls:=.type "range",data:=.fields #[.int lo t,.int hi u,.int 1 v] }
 | .frz o u=>h.get? a=some o∧ObjOk H h a u
 | .tbl ps=>h.get? a=some { cls:=.none,data:=.fields ps }
 | .met f x=>h.get? a=some (PySem.W.methodObj (.ref f) (.ref x))
 | .tab=>∃ ps:Array Value,h.get? a=some (PySem.W.tabObj ps)∧TriplesOk ps.toList∧∀ pos c,codeAmong pos ps.toList=some c->∃ c' oc vs q t φ,c=Value.ref c'∧H c'=some (.frz oc φ)∧oc.data=.fields vs∧vs[1]?=some (Value.str q t)
 | .ext φ=>φ h∧(∃ o,h.get? a=some o)∧∀ h1 h2:Heap,φ h1->(∀ o,h1.get? a=some o->h2.get? a=some o)->φ h2
def HOk (H:Hp)(h:Heap):Prop:=∀ a o,H a=some o->ObjOk P w H h a o
end
section
variable {P:Program}{w:World}{H H':Hp}{h h':Heap}{a:Addr}{o:HO}
theorem ObjOk.lt (x:ObjOk P w H h a o):a<h.objs.size:=by
 cases o with
 | lst xs=>obtain⟨_,_,_,_,e⟩:=x;exact Heap.lt_size e
 | tup xs=>obtain⟨_,_,_,p⟩:=x;exact p.lt
 | dK kvs=>obtain⟨_,_,_,_,o,_,_,e,_⟩:=x;exact Heap.lt_size e
 | dT kvs=>obtain⟨_,_,_,_,o,_,_,e,_⟩:=x;exact Heap.lt_size e
 | set S n=>obtain⟨o,_,_,_,e,_⟩:=x;exact Heap.lt_size e
 | ins C dx fs=>obtain⟨_,_,_,e,_⟩:=x;exact Heap.lt_size e
 | own y=>obtain⟨_,e⟩:=x;exact Heap.lt_size e
 | xd fs=>obtain⟨_,⟨_,_,_,e,_⟩,_⟩:=x;exact Heap.lt_size e
 | rng lo hi=>obtain⟨_,_,_,e⟩:=x;exact Heap.lt_size e
 | frz ob u=>obtain⟨e,_⟩:=x;exact Heap.lt_size e
 | tbl ps=>exact Heap.lt_size (show h.get? a=some _ from x)
 | met f y=>exact Heap.lt_size (show h.get? a=some _ from x)
 | tab=>obtain⟨_,e,_⟩:=x;exact Heap.lt_size e
 | ext φ=>obtain⟨_,⟨_,e⟩,_⟩:=x;exact Heap.lt_size e
theorem Paired.mapP {α β:Type}{F G:α->β->Prop}{l₁:List α}{l₂:List β}(h:Paired F l₁ l₂)(f:∀ a b,F a b->G a b):Paired G l₁ l₂:=by
 induction h with
 | nil=>exact .nil
 | cons r t ih=>exact .cons (f _ _ r) ih
theorem ObjOk.stay (x:ObjOk P w H h a o)(k:∀ b u,(b=a∨H b=some (.own a))->h.get? b=some u->h'.get? b=some u)
  (ho:∀ b,H b=some (.own a)->H' b=some (.own a)) (ht:∀ b xs,H b=some (.tup xs)->H' b=some (.tup xs)) (hz:∀ b o u vs,o.data=.fields vs->H b=some (.frz o u)->H' b=some (.frz o u):=by exact fun _ _ _ _ _ q=>q):ObjOk P w H' h' a o:=by
 induction o with
 | lst xs=>obtain⟨z,its,n,r,e⟩:=x;exact⟨z,its,n,r,k _ _ (.inl rfl) e⟩
 | tup xs=>obtain⟨z,its,r,ob,e,c⟩:=x;exact⟨z,its,r,ob,k _ _ (.inl rfl) e,c⟩
 | dK kvs=>obtain⟨z,y,vs,r,ob,es,ep,e,c⟩:=x;exact⟨z,y,vs,r,ob,es,ep,k _ _ (.inl rfl) e,c⟩
 | dT kvs=>
  obtain⟨z,y,xs,r,ob,es,ep,e,c⟩:=id (x)
  exact ⟨z,y,xs,(Paired.mapP r fun p q z=>⟨z.1,ht _ _ z.2.1,z.2.2⟩),ob,es,ep,k _ _ (.inl rfl) e,c⟩
 | set S n=>obtain⟨ob,es,ep,t,e,c⟩:=x;exact⟨ob,es,ep,t,k _ _ (.inl rfl) e,c⟩
 | ins C dx fs=>
  obtain⟨d,z,ne,e,mA,⟨od,es,ep,e2,c⟩,r⟩:=x
  exact⟨ho _ d,z,ne,k _ _ (.inl rfl) e,mA,⟨od,es,ep,k _ _ (.inr d) e2,c⟩,r⟩
 | own y=>obtain⟨ob,e⟩:=x;exact⟨ob,k _ _ (.inl rfl) e⟩
 | xd fs=>obtain⟨mA,⟨od,es,ep,e,c⟩,r⟩:=x;exact⟨mA,⟨od,es,ep,k _ _ (.inl rfl) e,c⟩,r⟩
 | rng lo hi=>obtain⟨t,u,v,e⟩:=x;exact⟨t,u,v,k _ _ (.inl rfl) e⟩
 | frz ob u ih=>obtain⟨e,q⟩:=x;exact⟨k _ _ (.inl rfl) e,ih q⟩
 | tbl ps=>
  have e:h.get? a=some { cls:=.none,data:=.fields ps }:=x
  show h'.get? a=some { cls:=.none,data:=.fields ps }
  exact k a _ (.inl rfl) e
 | met f y=>
  have e:h.get? a=some (PySem.W.methodObj (.ref f) (.ref y)):=x
  show h'.get? a=some (PySem.W.methodObj (.ref f) (.ref y))
  exact k a _ (.inl rfl) e
 | ext φ=>obtain⟨p,⟨o,e⟩,st⟩:=x;exact⟨st _ _ p fun o q=>k _ _ (.inl rfl) q,⟨o,k _ _ (.inl rfl) e⟩,st⟩
 | tab=>
  obtain⟨ps,e,tr,co⟩:=id (x)
  exact⟨ps,k _ _ (.inl rfl) e,tr,fun pos c z=>let ⟨c',oc,vs,q,t,φ,h1,h2,h3,h4⟩:=co pos c z;⟨c',oc,vs,q,t,φ,h1,hz _ _ _ _ h3 h2,h3,h4⟩⟩
theorem HOk.lt (x:HOk P w H h)(e:H a=some o):a<h.objs.size:=(x a o e).lt
theorem HOk.fresh (x:HOk P w H h)(e:h.objs.size≤a):H a=none:=by
 cases q:H a with
 | none=>rfl
 | some u=>exact absurd (Nat.lt_of_lt_of_le (x.lt q) e) (Nat.lt_irrefl _)
theorem HOk.kept (x:HOk P w H h)(k:∀ b u,h.get? b=some u->h'.get? b=some u):HOk P w H h':=fun a o e=>
 (x a o e).stay (fun b u _ q=>k b u q) (fun _ q=>q) fun _ _ q=>q
theorem HOk.laid (x:HOk P w H h)(k:∀ b u,h.get? b=some u->h'.get? b=some u)(hp:h.objs.size≤a)(new:ObjOk P w (upd H a o) h' a o):HOk P w (upd H a o) h':=fun b u e=>by
 have hn:=x.fresh hp
 by_cases hb:b=a
 ·subst hb;rw[upd_same] at e;cases e;exact new
 ·rw[upd_ne hb] at e
  exact (x b u e).stay (fun c v _ q=>k c v q) (fun c q=>by rw[upd_ne (ne_of_none q hn)];exact q) (fun c xs q=>by rw[upd_ne (ne_of_none q hn)];exact q) fun c ob xs _ _ q=>by rw[upd_ne (ne_of_none q hn)];exact q
end
def Rd (H:Hp)(a:Addr)(u:HO):Prop:=H a=some u∨∃ o,H a=some (.frz o u)
theorem Rd.of {H:Hp}{a:Addr}{u:HO}(h:H a=some u):Rd H a u:=.inl h
theorem Rd.ok {P:Program}{w:World}{H:Hp}{h:Heap}{a:Addr}{u:HO}(r:Rd H a u)(x:HOk P w H h):ObjOk P w H h a u:=by
 rcases r with r | ⟨o,r⟩
 ·exact x a u r
 ·obtain⟨_,q⟩:=x a _ r
  exact q
def Mut:Option HO->Prop
 | some (.lst _)=>True
 | some (.dK _)=>True
 | some (.dT _)=>True
 | some (.set _ _)=>True
 | some (.ins _ _ _)=>True
 | some (.ext _)=>True
 | _=>False
section
variable {P:Program}{w:World}{H:Hp}{h h':Heap}{x e:Addr}{o':HO}
theorem HOk.write (ok:HOk P w H h)(mu:Mut (H x))(he:e=x∨H e=some (.own x))(k:∀ b u,b≠e->h.get? b=some u->h'.get? b=some u)(heo:∃ u,h'.get? e=some u)
  (new:ObjOk P w (upd H x o') h' x o'):HOk P w (upd H x o') h':=fun b u q=>by
 have nown:∀ c y,H c=some (.own y)->c≠x:=fun c y r z=>by subst z;rw[r] at mu;exact mu
 have ntup:∀ c xs,H c=some (.tup xs)->c≠x:=fun c xs r z=>by subst z;rw[r] at mu;exact mu
 have nfrz:∀ c ob xs,H c=some (.frz ob xs)->c≠x:=fun c ob xs r z=>by subst z;rw[r] at mu;exact mu
 by_cases hb:b=x
 ·subst hb;rw[upd_same] at q;cases q;exact new
 ·rw[upd_ne hb] at q
  by_cases hbe:b=e
  ·have q':H b=some (.own x):=by
    rcases he with z | z
    ·exact absurd (hbe.trans z) hb
    ·rw[hbe];exact z
   rw[q] at q';cases q'
   obtain⟨v,hv⟩:=id (heo)
   exact⟨v,by rw[hbe];exact hv⟩
  ·refine (ok b u q).stay (fun c v hc r=>k c v ?_ r) (fun c r=>by rw[upd_ne (nown c b r)];exact r) (fun c xs r=>by rw[upd_ne (ntup c xs r)];exact r) fun c ob xs _ _ r=>by rw[upd_ne (nfrz c ob xs r)];exact r
   rcases hc with rfl | hc
   ·exact hbe
   ·rintro rfl
    rcases he with z | z
    ·exact nown c b hc z
    ·rw[hc] at z;cases z;exact hb rfl
end
structure Un (fs ex:List Addr)(H H':Hp)(h h':Heap):Prop where
 keep:∀ b o,h.get? b=some o->H b=none->b∉fs->b∉ex->h'.get? b=some o
 slot:∀ b o,h.get? b=some o->H b=none->b∈fs->b∉ex->∃ sl,h'.get? b=some { o with slots:=sl }
 free:∀ b o,h.get? b=some o->H b=none->b∉ex->H' b=none
 there:∀ b o,h.get? b=some o->b∉ex->∃ o',h'.get? b=some o'
 tups:∀ b xs,H b=some (.tup xs)->H' b=some (.tup xs)
 frzs:∀ b o u,H b=some (.frz o u)->H' b=some (.frz o u)
 tbls:∀ b ps,H b=some (.tbl ps)->∃ more,H' b=some (.tbl (ps++more))
 tabs:∀ b,H b=some .tab->H' b=some .tab
section
variable {fs fs' ex ex':List Addr}{H H1 H2:Hp}{h h1 h2 h':Heap}{a x e:Addr}{o:HO}
theorem Un.any (u:Un fs ex H H1 h h1){b:Addr}{ob:Obj}(q:h.get? b=some ob)(n:H b=none)(hx:b∉ex):∃ sl,h1.get? b=some { ob with slots:=sl }:=by
 by_cases hb:b∈fs
 ·exact u.slot b ob q n hb hx
 ·exact⟨ob.slots,u.keep b ob q n hb hx⟩
theorem Un.trans (a:Un fs ex H H1 h h1)(b:Un fs ex H1 H2 h1 h2):Un fs ex H H2 h h2 where
 keep:=fun c ob q n hc hx=>b.keep c ob (a.keep c ob q n hc hx) (a.free c ob q n hx) hc hx
 slot:=fun c ob q n hc hx=>by
  obtain⟨sl,e1⟩:=a.slot c ob q n hc hx
  obtain⟨sl',e2⟩:=b.slot c _ e1 (a.free c ob q n hx) hc hx
  exact⟨sl',e2⟩
 free:=fun c ob q n hx=>by
  obtain⟨o',e1⟩:=a.there c ob q hx
  exact b.free c o' e1 (a.free c ob q n hx) hx
 there:=fun c ob q hx=>by
  obtain⟨o',e1⟩:=a.there c ob q hx
  exact b.there c o' e1 hx
 tups:=fun c xs q=>b.tups c xs (a.tups c xs q)
 frzs:=fun c ob xs q=>b.frzs c ob xs (a.frzs c ob xs q)
 tabs:=fun c q=>b.tabs c (a.tabs c q)
 tbls:=fun c ps q=>by
  obtain⟨m1,e1⟩:=a.tbls c ps q
  obtain⟨m2,e2⟩:=b.tbls c _ e1
  exact⟨m1++m2,by rw[e2,Array.append_assoc]⟩
theorem Un.kept (k:∀ b u,h.get? b=some u->h'.get? b=some u):Un fs ex H H h h':=
 ⟨fun b ob q _ _ _=>k b ob q,fun b ob q _ _ _=>⟨ob.slots,k b ob q⟩,fun _ _ _ n _=>n,fun b ob q _=>⟨ob,k b ob q⟩,fun _ _ q=>q,fun _ _ _ q=>q,fun _ ps q=>⟨#[],by rw[q];simp⟩,fun _ q=>q⟩
theorem Un.refl:Un fs ex H H h h:=Un.kept fun _ _ q=>q
theorem Un.laid (k:∀ b u,h.get? b=some u->h'.get? b=some u)(hp:h.objs.size≤a)(hn:H a=none):Un fs ex H (upd H a o) h h' where
 keep:=fun b u q _ _ _=>k b u q
 slot:=fun b u q _ _ _=>⟨u.slots,k b u q⟩
 free:=fun b u q n _=>by rw[upd_ne (Nat.ne_of_lt (Nat.lt_of_lt_of_le (Heap.lt_size q) hp))];exact n
 there:=fun b u q _=>⟨u,k b u q⟩
 tups:=fun b xs q=>by rw[upd_ne (ne_of_none q hn)];exact q
 frzs:=fun b u xs q=>by rw[upd_ne (ne_of_none q hn)];exact q
 tbls:=fun b ps q=>⟨#[],by rw[upd_ne (ne_of_none q hn),q];simp⟩
 tabs:=fun b q=>by rw[upd_ne (ne_of_none q hn)];exact q
theorem Un.write (mu:Mut (H x))(he:e=x∨H e=some (.own x))(k:∀ b u,b≠e->h.get? b=some u->h'.get? b=some u)(heo:∃ u,h'.get? e=some u):Un fs ex H (upd H x o) h h':=by
 have hx:∀ b,H b=none->b≠x:=fun b n z=>by subst z;rw[n] at mu;exact mu
 have hb:∀ b,H b=none->b≠e:=fun b n z=>by
  subst z
  rcases he with r | r
  ·exact hx b n r
  ·rw[n] at r;cases r
 have hm:∀ b u,H b=some u->¬ Mut (some u)->b≠x:=fun b u q nm z=>by subst z;rw[q] at mu;exact nm mu
 refine⟨fun b u q n _ _=>k b u (hb b n) q,fun b u q n _ _=>⟨u.slots,k b u (hb b n) q⟩,fun b u q n _=>by rw[upd_ne (hx b n)];exact n,fun b u q _=>?_,
  fun b xs q=>by rw[upd_ne (hm b _ q fun z=>z)];exact q,fun b u xs q=>by rw[upd_ne (hm b _ q fun z=>z)];exact q,fun b ps q=>⟨#[],by rw[upd_ne (hm b _ q fun z=>z),q];simp⟩,fun b q=>by rw[upd_ne (hm b _ q fun z=>z)];exact q⟩
 by_cases hbe:b=e
 ·subst hbe;exact heo
 ·exact⟨u,k b u hbe q⟩
theorem Un.mono (u:Un fs ex H H1 h h1)(hs:∀ b∈fs,b∈fs')(hx:∀ b∈ex,b∈ex'):Un fs' ex' H H1 h h1:=
 ⟨fun b ob q n hb he=>u.keep b ob q n (fun z=>hb (hs b z)) fun z=>he (hx b z),fun _ _ q n _ he=>u.any q n fun z=>he (hx _ z),fun b ob q n he=>u.free b ob q n fun z=>he (hx b z),fun b ob q he=>u.there b ob q fun z=>he (hx b z),u.tups,u.frzs,u.tbls,u.tabs⟩
end
def trk (h:Heap)(H:Hp):List Addr:=(List.range h.objs.size).filter fun a=>(H a).isSome
def hidT (h:Heap)(H:Hp):Heap:=PySem.W.hideAll h (trk h H)
theorem hidT_size (h:Heap)(H:Hp):(hidT h H).objs.size=h.objs.size:=PySem.W.hideAll_size _ _
theorem hidT_get {h:Heap}{H:Hp}{b:Addr}{o:Obj}(e:h.get? b=some o)(n:H b=none):(hidT h H).get? b=some o:=
 PySem.W.hideAll_get _ e fun hm=>by
  have q:(H b).isSome=true:=(List.mem_filter.mp hm).2
  rw[n] at q;simp at q
theorem of_hidT {h:Heap}{H:Hp}{b:Addr}{o:Obj}(e:(hidT h H).get? b=some o):h.get? b=some o∧H b=none:=by
 have e':h.get? b=some o:=PySem.W.of_hideAll (trk h H) e
 refine⟨e',?_⟩
 cases q:H b with
 | none=>rfl
 | some x=>
  have hm:b∈trk h H:=List.mem_filter.mpr ⟨List.mem_range.mpr (Heap.lt_size e'),by simp[q]⟩
  have z:(hidT h H).get? b=none:=PySem.W.hideAll_none (trk h H) hm
  rw[z] at e;cases e
def allNews (g h:Heap)(L:Addr):List (Addr×Obj):=(List.range h.objs.size).filterMap fun a=>if a=L∨(g.get? a).isSome=true then none else (h.get? a).map fun o=>(a,o)
def rest (g h:Heap)(L d:Addr):List (Addr×Obj):=(allNews g h L).filter fun p=>decide (p.1≠d)
end L2
namespace L2
structure Mod (K:PySem.W.Frag)(mg:Str->Option Value)(base:Heap):Prop where
 kin:K.In base
 glob:base.Ns mainGlobals mg
 blt:∃ mb,base.Ns builtinsNs mb∧∀ x:Str,x≠"__name__"->mb x=bootBuiltins x
 nolimit:base.NoLimit
def lamNames (P:Program):List Str:=((recsOf P).filter fun d=>(freeInTheComprehensionsStmts d.body).isNone).map (·.name)
def TabsOk (P:Program)(K:PySem.W.Frag)(mg:Str->Option Value)(base:Heap)(H:Hp):Prop:=∀ x c p,x∈lamNames P->PySem.W.tabIn K x=some (c,p)->H p=some .tab∧PySem.W.CodeHd base c p∧base.BuiltinsAt mg p
structure Cx where
 prog:Program
 w:World
 K:PySem.W.Frag
 mg:Str->Option Value
 base:Heap
 A:Around
 N:List Str
 s₀:Shared
 H₀:Hp
 env:Env
 outer:List Env
 stack:List Env
 ex:List Addr
 fn:Str->Bool
 calm:Bool
 pn:List (Addr×Obj)
 xe:Value->Shared->Prop
def frs (l:List Env):List Addr:=l.filterMap (·.frame)
abbrev Cx.fs (X:Cx):List Addr:=frs X.outer
def Vis (sc:Scope)(x:Str):Prop:=sc.names.lookup x=some .local∨sc.names.lookup x=some .cell∨sc.names.lookup x=some .free
def Loc (sc:Scope)(x:Str):Prop:=sc.names.lookup x=some .local∨sc.names.lookup x=some .cell
def Look (env:Env)(h:Heap)(m:Str->Option Value)(x:Str)(u:Value):Prop:=
 (env.kindOf x=some .local∧m x=some u)∨((env.kindOf x=some .cell∨env.kindOf x=some .free)∧∃ c,env.cells.lookup x=some c∧h.IsCell c (some u))
structure Cx.Ok (X:Cx):Prop where
 mod:Mod X.K X.mg X.base
 kind:X.env.scope.kind=.function
 glob:X.env.globals=mainGlobals
 blt:X.env.builtins=builtinsNs
 above:X.s₀.heap.objs.size≤X.env.locals
 inj:∀ x y c,X.env.cells.lookup x=some c->X.env.cells.lookup y=some c->x=y
 has:∀ x,(X.env.kindOf x=some .cell∨X.env.kindOf x=some .free)->∃ c,X.env.cells.lookup x=some c
 cab:∀ x c,X.fn x=true->X.env.cells.lookup x=some c->X.s₀.heap.objs.size≤c
 hd:X.calm=true->X.A.handled=none
 frames:X.A.frames=some X.stack
 stk:X.stack=X.outer∨(X.stack=X.env::X.outer∧X.env.frame=some X.env.locals)
 exf:∀ b∈X.ex,b≠X.env.locals∧∀ x c,X.env.cells.lookup x=some c->c≠b
 bs:∀ b o,X.base.get? b=some o->X.s₀.heap.get? b=some o∧X.H₀ b=none
 bsz:X.base.objs.size≤X.s₀.heap.objs.size
 noex:∀ b o,X.base.get? b=some o->b∉X.ex
 exfs:∀ b∈X.ex,b∉X.fs
 funs:X.s₀.heap.FunFrames X.base X.outer
 frf:∀ b∈X.fs,X.H₀ b=none
 tabs:TabsOk X.prog X.K X.mg X.base X.H₀
structure Inv (X:Cx)(pins:List (Addr×Obj))(σ:List (Option V))(H:Hp)(s:Shared):Prop where
 ok:X.Ok
 os:s.os=X.s₀.os
 bare:AllBare s.gens
 base:Un X.fs X.ex X.H₀ H X.s₀.heap s.heap
 loc:∃ m,s.heap.Ns X.env.locals m∧∀ (i:Nat) (x:Str) (v:V),X.N[i]?=some x->σ[i]?=some (some v)->Vis X.env.scope x->∃ u,RelV v u∧Look X.env s.heap m x u
 cell:∀ x c,X.env.cells.lookup x=some c->∃ v,s.heap.IsCell c v
 free:H X.env.locals=none
 freeC:∀ x c,X.env.cells.lookup x=some c->H c=none∨(X.fn x=false∧∃ o u,H c=some (.frz o u))
 pin:∀ p∈X.pn++pins,s.heap.get? p.1=some p.2∧H p.1=none∧p.1≠X.env.locals∧p.1∉X.fs∧∀ v,p.2.data≠.cell v
 hok:HOk X.prog X.w H s.heap
 len:σ.length=X.N.length
section
variable {X:Cx}{pins:List (Addr×Obj)}{σ:List (Option V)}{H H':Hp}{s:Shared}{h':Heap}
theorem Cx.Ok.nofr (ok:X.Ok){b:Addr}{o:Obj}(e:X.base.get? b=some o):b∉X.fs:=fun hb=>by
 have:=(ok.funs.mem hb).1
 rw[e] at this;cases this
theorem Inv.bs (I:Inv X pins σ H s):∀ b o,X.base.get? b=some o->s.heap.get? b=some o∧H b=none:=fun b o e=>
 ⟨I.base.keep b o (I.ok.bs b o e).1 (I.ok.bs b o e).2 (I.ok.nofr e) (I.ok.noex b o e),I.base.free b o (I.ok.bs b o e).1 (I.ok.bs b o e).2 (I.ok.noex b o e)⟩
theorem Inv.bk (I:Inv X pins σ H s):∀ b o,X.base.get? b=some o->s.heap.get? b=some o:=fun b o e=>(I.bs b o e).1
theorem Inv.mod (I:Inv X pins σ H s):Mod X.K X.mg X.base:=I.ok.mod
theorem Inv.kIn (I:Inv X pins σ H s):X.K.In s.heap:=I.ok.mod.kin.keeps I.bk
theorem Inv.nolimit (I:Inv X pins σ H s):s.heap.NoLimit:=I.ok.mod.nolimit.keeps I.bk
theorem Inv.fr (I:Inv X pins σ H s):∃ m,Fr X.base X.env.locals s.heap m:=
 let ⟨m,hn,_⟩:=I.loc
 ⟨m,hn,I.bk,Nat.le_trans I.ok.bsz I.ok.above⟩
theorem Inv.lt (I:Inv X pins σ H s):X.env.locals<s.heap.objs.size:=let ⟨_,hn,_⟩:=I.loc;hn.lt
theorem Inv.sz (I:Inv X pins σ H s):X.s₀.heap.objs.size≤s.heap.objs.size:=Nat.le_trans I.ok.above (Nat.le_of_lt I.lt)
theorem Inv.nofs (I:Inv X pins σ H s){a:Addr}(h:s.heap.objs.size≤a):a∉X.fs:=fun hb=>by
 obtain⟨_,o,ho,_⟩:=I.ok.funs.mem hb
 exact absurd (Nat.lt_of_lt_of_le (Heap.lt_size ho) (Nat.le_trans I.sz h)) (Nat.lt_irrefl _)
theorem Inv.cne (I:Inv X pins σ H s):∀ x c,X.env.cells.lookup x=some c->c≠X.env.locals:=fun x c e z=>by
 obtain⟨v,o,ho,hd⟩:=I.cell x c e
 obtain⟨m,⟨o',es,ep,ho',hd',_⟩,_⟩:=I.loc
 rw[z,ho'] at ho;cases ho;rw[hd'] at hd;cases hd
theorem Inv.funs (I:Inv X pins σ H s):s.heap.FunFrames X.base X.outer:=by
 have all:∀ (l:List Env),(∀ b∈frs l,b∈X.fs)->X.s₀.heap.FunFrames X.base l->s.heap.FunFrames X.base l:=by
  intro l
  induction l with
  | nil=>intro _ _;trivial
  | cons env r ih=>
   intro hs hl
   obtain⟨hk,⟨L,o,hf,hn,ho,hd⟩,hr⟩:=hl
   have hL:L∈X.fs:=hs L (by unfold frs;rw[List.filterMap_cons,hf];exact List.mem_cons_self)
   obtain⟨sl,e⟩:=I.base.slot L o ho (I.ok.frf L hL) hL fun z=>I.ok.exfs L z hL
   exact⟨hk,⟨L,_,hf,hn,e,hd⟩,ih (fun b hb=>hs b (by unfold frs;rw[List.filterMap_cons,hf];exact List.mem_cons_of_mem _ hb)) hr⟩
 exact all X.outer (fun _ hb=>hb) I.ok.funs
theorem Inv.stack (I:Inv X pins σ H s):s.heap.FunFrames X.base X.stack:=by
 rcases I.ok.stk with e | ⟨e,hf⟩
 ·rw[e];exact I.funs
 ·rw[e]
  obtain⟨m,hn,_⟩:=I.loc
  refine .cons (by rw[I.ok.kind];decide) hf hn ?_ I.funs
  exact Heap.get?_none_of_le (Nat.le_trans I.ok.bsz I.ok.above)
theorem Inv.stkSub (I:Inv X pins σ H s):∀ b∈frs X.stack,b∈X.env.locals::X.fs:=fun b hb=>by
 rcases I.ok.stk with e | ⟨e,hf⟩
 ·rw[e] at hb;exact List.mem_cons_of_mem _ hb
 ·rw[e] at hb
  unfold frs at hb
  rw[List.filterMap_cons,hf] at hb
  exact hb
theorem Inv.stkFree (I:Inv X pins σ H s):∀ b∈frs X.stack,H b=none:=fun b hb=>by
 rcases List.mem_cons.mp (I.stkSub b hb) with e | hb
 ·rw[e];exact I.free
 ·obtain⟨_,o,ho,_⟩:=I.ok.funs.mem hb
  exact I.base.free b o ho (I.ok.frf b hb) fun z=>I.ok.exfs b z hb
theorem Inv.step {g':Array GenState}{t':Nat}{d':Drawn}{ch:List Addr}(I:Inv X pins σ H s)
  (hch:∀ b∈ch,(b∈X.ex∨X.s₀.heap.objs.size≤b)∧b≠X.env.locals∧(∀ x c,X.env.cells.lookup x=some c->c≠b)∧∀ p∈X.pn++pins,p.1≠b)
  (keep:∀ b o,b≠X.env.locals->b∉X.fs->b∉ch->s.heap.get? b=some o->H b=none->h'.get? b=some o)
  (slot:∀ b o,b≠X.env.locals->b∈X.fs->b∉ch->s.heap.get? b=some o->H b=none->∃ sl,h'.get? b=some { o with slots:=sl }) (free:∀ b o,b∉ch->s.heap.get? b=some o->H b=none->H' b=none)
  (there:∀ b o,b∉ch->s.heap.get? b=some o->∃ o',h'.get? b=some o')
  (tups:∀ b xs,H b=some (.tup xs)->H' b=some (.tup xs)) (frzs:∀ b o u,H b=some (.frz o u)->H' b=some (.frz o u)) (tbls:∀ b ps,H b=some (.tbl ps)->∃ more,H' b=some (.tbl (ps++more))) (tabs:∀ b,H b=some .tab->H' b=some .tab)
  (ns:∀ m,s.heap.Ns X.env.locals m->h'.Ns X.env.locals m) (hok:HOk X.prog X.w H' h') (hg:AllBare g') :
  Inv X pins σ H' { s with heap:=h',gens:=g',drawn:=d',toks:=t' }:=by
 have neL:∀ b o,X.s₀.heap.get? b=some o->b≠X.env.locals:=fun b o e=>Nat.ne_of_lt (Nat.lt_of_lt_of_le (Heap.lt_size e) I.ok.above)
 have neC:∀ b o,X.s₀.heap.get? b=some o->b∉X.ex->b∉ch:=fun b o e hx hb=>by
  rcases (hch b hb).1 with z | z
  ·exact hx z
  ·exact absurd (Nat.lt_of_lt_of_le (Heap.lt_size e) z) (Nat.lt_irrefl _)
 have cellK:∀ x c,X.env.cells.lookup x=some c->∀ v,s.heap.IsCell c v->h'.IsCell c v:=fun x c e v zpat=>by
  obtain⟨o,ho,hd⟩:=zpat
  have nch:c∉ch:=fun z=>(hch c z).2.2.1 x c e rfl
  rcases I.freeC x c e with fc | ⟨_,ob,ub,fc⟩
  ·by_cases hc:c∈X.fs
   ·obtain⟨sl,q⟩:=slot c o (I.cne x c e) hc nch ho fc
    exact⟨_,q,hd⟩
   ·exact⟨o,keep c o (I.cne x c e) hc nch ho fc,hd⟩
  ·have q1:=(I.hok c _ fc).1
   have q2:=(hok c _ (frzs c ob ub fc)).1
   rw[ho] at q1
   obtain rfl:=Option.some.inj q1
   exact⟨o,q2,hd⟩
 refine⟨I.ok,I.os,hg,⟨fun b o e n hb hx=>?_,fun b o e n hb hx=>?_,fun b o e n hx=>?_,fun b o e hx=>?_,fun b xs e=>tups b xs (I.base.tups b xs e),fun b o xs e=>frzs b o xs (I.base.frzs b o xs e),fun b ps e=>?_,fun b e=>tabs b (I.base.tabs b e)⟩,?_,fun x c e=>?_,?_,fun x c e=>?_,fun p hp=>?_,hok,I.len⟩
 ·exact keep b o (neL b o e) hb (neC b o e hx) (I.base.keep b o e n hb hx) (I.base.free b o e n hx)
 ·obtain⟨sl,e1⟩:=I.base.slot b o e n hb hx
  obtain⟨sl',e2⟩:=slot b _ (neL b o e) hb (neC b o e hx) e1 (I.base.free b o e n hx)
  exact⟨sl',e2⟩
 ·obtain⟨o',e1⟩:=I.base.there b o e hx
  exact free b o' (neC b o e hx) e1 (I.base.free b o e n hx)
 ·obtain⟨o',e1⟩:=I.base.there b o e hx
  exact there b o' (neC b o e hx) e1
 ·obtain⟨m1,e1⟩:=I.base.tbls b ps e
  obtain⟨m2,e2⟩:=tbls b _ e1
  exact⟨m1++m2,by rw[e2,Array.append_assoc]⟩
 ·obtain⟨m,hn,hl⟩:=I.loc
  refine⟨m,ns m hn,fun i x v e1 e2 e3=>?_⟩
  obtain⟨u,r,l⟩:=hl i x v e1 e2 e3
  refine⟨u,r,?_⟩
  rcases l with l | ⟨k,c,e,z⟩
  ·exact .inl l
  ·exact .inr ⟨k,c,e,cellK x c e _ z⟩
 ·obtain⟨v,z⟩:=I.cell x c e
  exact⟨v,cellK x c e v z⟩
 ·obtain⟨m,⟨o,_,_,ho,_⟩,_⟩:=I.loc
  exact free _ o (fun z=>(hch _ z).2.1 rfl) ho I.free
 ·obtain⟨v,o,ho,hd⟩:=I.cell x c e
  rcases I.freeC x c e with fc | ⟨hfn,ob,ub,fc⟩
  ·exact .inl (free c o (fun z=>(hch c z).2.2.1 x c e rfl) ho fc)
  ·exact .inr ⟨hfn,ob,ub,frzs c ob ub fc⟩
 ·obtain⟨e,n,ne,nf,d⟩:=I.pin p hp
  have nch:p.1∉ch:=fun z=>(hch p.1 z).2.2.2 p hp rfl
  exact⟨keep p.1 p.2 ne nf nch e n,free p.1 p.2 nch e n,ne,nf,d⟩
theorem Inv.un {t':Nat}(I:Inv X pins σ H s)(u:Un X.fs [] H H' s.heap h')(hok:HOk X.prog X.w H' h'):Inv X pins σ H' { s with heap:=h',toks:=t' }:=by
 obtain⟨m,⟨o,es,ep,ho,r⟩,_⟩:=id I.loc
 obtain⟨sl,hL⟩:=u.any ho I.free (by simp)
 exact I.step (g':=s.gens) (d':=s.drawn) (ch:=[]) (fun _ z=>nomatch z) (fun b o _ hb _ e n=>u.keep b o e n hb (by simp)) (fun b o _ hb _ e n=>u.slot b o e n hb (by simp)) (fun b o _ e n=>u.free b o e n (by simp)) (fun b o _ e=>u.there b o e (by simp)) u.tups u.frzs u.tbls u.tabs (fun m' hm=>by
  obtain⟨o',es',ep',ho',r'⟩:=id (hm)
  rw[ho] at ho';cases ho'
  exact⟨_,es',ep',hL,r'⟩) hok I.bare
theorem Inv.call {g':Array GenState}{t':Nat}{d':Drawn}{ch:List Addr}(I:Inv X pins σ H s)(u:Un (frs X.stack) ch H H' s.heap h')(hok:HOk X.prog X.w H' h')(hg:AllBare g')
  (hch:∀ b∈ch,(b∈X.ex∨X.s₀.heap.objs.size≤b)∧b≠X.env.locals∧(∀ x c,X.env.cells.lookup x=some c->c≠b)∧∀ p∈X.pn++pins,p.1≠b) :
  Inv X pins σ H' { s with heap:=h',gens:=g',drawn:=d',toks:=t' }:=by
 obtain⟨m,⟨o,es,ep,ho,r⟩,_⟩:=id I.loc
 obtain⟨sl,hL⟩:=u.any ho I.free fun z=>(hch _ z).2.1 rfl
 exact I.step (ch:=ch) hch (fun b o hL hb hc e n=>u.keep b o e n (fun z=>(List.mem_cons.mp (I.stkSub b z)).elim hL hb) hc) (fun b o _ _ hc e n=>u.any e n hc) (fun b o hc e n=>u.free b o e n hc) (fun b o hc e=>u.there b o e hc) u.tups u.frzs u.tbls u.tabs (fun m' hm=>by
  obtain⟨o',es',ep',ho',r'⟩:=id (hm)
  rw[ho] at ho';cases ho'
  exact⟨_,es',ep',hL,r'⟩) hok hg
theorem Inv.turned {t':Nat}{it:Addr}(I:Inv X pins σ H s)(k:∀ b o,b≠it->s.heap.get? b=some o->h'.get? b=some o)(hn:H it=none)(hL:it≠X.env.locals)
  (h1:it∈X.ex∨X.s₀.heap.objs.size≤it) (h2:∀ x c,X.env.cells.lookup x=some c->c≠it) (h3:∀ p∈X.pn++pins,p.1≠it):Inv X pins σ H { s with heap:=h',toks:=t' }:=by
 have nit:∀ b u,H b=some u->b≠it:=fun b u e z=>by rw[z,hn] at e;cases e
 refine I.step (g':=s.gens) (d':=s.drawn) (ch:=[it]) (fun b hb=>?_) (fun b o _ _ hc e _=>k b o (fun z=>hc (by simp[z])) e) (fun b o _ _ hc e _=>⟨o.slots,k b o (fun z=>hc (by simp[z])) e⟩) (fun _ _ _ _ n=>n)
  (fun b o hc e=>⟨o,k b o (fun z=>hc (by simp[z])) e⟩) (fun _ _ e=>e) (fun _ _ _ e=>e) (fun b ps e=>⟨#[],by rw[e];simp⟩) (fun _ e=>e) (fun m hm=>?_) (fun b u e=>?_) I.bare
 ·have e:b=it:=by simpa using hb
  subst e
  exact⟨h1,hL,h2,h3⟩
 ·obtain⟨o,es,ep,ho,r⟩:=id (hm)
  exact ⟨o,es,ep,k _ o (Ne.symm hL) ho,r⟩
 ·refine (I.hok b u e).stay (fun c v hc q=>k c v ?_ q) (fun _ q=>q) fun _ _ q=>q
  rcases hc with z | z
  ·rw[z];exact nit b u e
  ·exact nit c _ z
theorem Inv.tok (I:Inv X pins σ H s)(t:Nat):Inv X pins σ H { s with toks:=t }:=I.un (h':=s.heap) (t':=t) Un.refl I.hok
theorem Inv.kept {t':Nat}(I:Inv X pins σ H s)(k:∀ b u,s.heap.get? b=some u->h'.get? b=some u):Inv X pins σ H { s with heap:=h',toks:=t' }:=I.un (Un.kept k) (I.hok.kept k)
theorem Inv.laid {a:Addr}{o:HO}{t':Nat}(I:Inv X pins σ H s)(k:∀ b u,s.heap.get? b=some u->h'.get? b=some u)(hp:s.heap.objs.size≤a)(new:ObjOk X.prog X.w (upd H a o) h' a o) :
 Inv X pins σ (upd H a o) { s with heap:=h',toks:=t' }:=I.un (Un.laid k hp (I.hok.fresh hp)) (I.hok.laid k hp new)
theorem Inv.write {x e:Addr}{o:HO}{t':Nat}(I:Inv X pins σ H s)(mu:Mut (H x))(he:e=x∨H e=some (.own x))(k:∀ b u,b≠e->s.heap.get? b=some u->h'.get? b=some u)(heo:∃ u,h'.get? e=some u)
 (new:ObjOk X.prog X.w (upd H x o) h' x o):Inv X pins σ (upd H x o) { s with heap:=h',toks:=t' }:=I.un (Un.write mu he k heo) (I.hok.write mu he k heo new)
theorem Inv.weak {σ':List (Option V)}(I:Inv X pins σ H s)(hl:σ'.length=σ.length)(w:∀ (i:Nat) v,σ'[i]?=some (some v)->σ[i]?=some (some v)):Inv X pins σ' H s:=
 ⟨I.ok,I.os,I.bare,I.base,let ⟨m,hn,hl'⟩:=I.loc;⟨m,hn,fun i x v e1 e2 e3=>hl' i x v e1 (w i v e2) e3⟩,I.cell,I.free,I.freeC,I.pin,I.hok,hl.trans I.len⟩
theorem Inv.pins_of {pins':List (Addr×Obj)}(I:Inv X pins σ H s)(h:∀ p∈pins',s.heap.get? p.1=some p.2∧H p.1=none∧p.1≠X.env.locals∧p.1∉X.fs∧∀ v,p.2.data≠.cell v):Inv X pins' σ H s:=
 ⟨I.ok,I.os,I.bare,I.base,I.loc,I.cell,I.free,I.freeC,fun p hp=>(List.mem_append.mp hp).elim (fun z=>I.pin p (List.mem_append_left _ z)) (h p),I.hok,I.len⟩
theorem nodup_ix {N:List Str}(hN:N.Nodup){i j:Nat}{x:Str}(a:N[i]?=some x)(b:N[j]?=some x):i=j:=by
 obtain⟨h1,e1⟩:=List.getElem?_eq_some_iff.mp a
 obtain⟨h2,e2⟩:=List.getElem?_eq_some_iff.mp b
 exact (List.getElem_inj hN).mp (e1.trans e2.symm)
theorem store_ok2 {M:Model}{A:Around}{E:Value->Shared->Prop}{i:Nat}{x:Str}{v:V}{u:Value}{Q:Unit->Shared->Prop}(I:Inv X pins σ H s)(hN:X.N.Nodup)(hi:X.N[i]?=some x)(hx:Loc X.env.scope x)(r:RelV v u)
  (h:∀ s',Inv X pins (σ.set i (some v)) H s'->(∃ a,Heap.SameBut a s.heap s'.heap∧(a=X.env.locals∨X.env.cells.lookup x=some a))->Q () s') (hf:X.fn x=true∨X.env.scope.names.lookup x=some .local:=by first | exact .inl rfl | exact .inr rfl | assumption):wpAny M A (storeName X.env x u) Q E s:=by
 obtain⟨m,hn,hl⟩:=id I.loc
 have hcls:(X.env.scope.kind==.class||(X.env.scope.kind==.module&&X.env.locals != X.env.globals))=false:=by rw[I.ok.kind];rfl
 have hiσ:i<σ.length:=by rw[I.len];exact (List.getElem?_eq_some_iff.mp hi).1
 have cne:=I.cne
 have tracked:∀ {a:Addr} {h':Heap},(∃ o,s.heap.get? a=some o∧H a=none)->Heap.SameBut a s.heap h'->HOk X.prog X.w H h':=fun {a h'} ha hs b ob e=>by
  obtain⟨_,_,hfree⟩:=id (ha)
  refine (I.hok b ob e).stay (fun c w' hc q=>(hs.2 c ?_).trans q) (fun _ q=>q) fun _ _ q=>q
  rintro rfl
  rcases hc with rfl | hc
  ·rw[hfree] at e;cases e
  ·rw[hfree] at hc;cases hc
 rcases hx with hk | hk
 ·refine wpAny_storeName_local hk hn (fun h' hn' hs=>?_) hcls
  obtain⟨oL,_,_,hoL,_⟩:=id hn
  refine h _ ⟨I.ok,I.os,I.bare,⟨fun b o e n hb hx=>?_,fun b o e n hb hx=>?_,I.base.free,fun b o e hx=>?_,I.base.tups,I.base.frzs,I.base.tbls,I.base.tabs⟩,⟨_,hn',fun j y v' e1 e2 e3=>?_⟩,fun y c e=>?_,I.free,I.freeC,fun p hp=>?_,tracked ⟨oL,hoL,I.free⟩ hs,by simpa using I.len⟩ ⟨_,hs,.inl rfl⟩
  ·exact (hs.2 b (Nat.ne_of_lt (Nat.lt_of_lt_of_le (Heap.lt_size e) I.ok.above))).trans (I.base.keep b o e n hb hx)
  ·obtain⟨sl,e1⟩:=I.base.slot b o e n hb hx
   exact⟨sl,(hs.2 b (Nat.ne_of_lt (Nat.lt_of_lt_of_le (Heap.lt_size e) I.ok.above))).trans e1⟩
  ·obtain⟨o',e1⟩:=I.base.there b o e hx
   exact⟨o',(hs.2 b (Nat.ne_of_lt (Nat.lt_of_lt_of_le (Heap.lt_size e) I.ok.above))).trans e1⟩
  ·by_cases hj:j=i
   ·subst hj
    rw[hi] at e1;cases e1
    rw[List.getElem?_set_self hiσ] at e2
    cases e2
    exact⟨u,r,.inl ⟨hk,by simp⟩⟩
   ·rw[List.getElem?_set_ne (Ne.symm hj)] at e2
    obtain⟨u',r',q⟩:=hl j y v' e1 e2 e3
    refine⟨u',r',?_⟩
    rcases q with ⟨k,e⟩ | ⟨k,c,e,z⟩
    ·refine .inl ⟨k,?_⟩
     have:y≠x:=fun e=>hj (nodup_ix hN e1 (e▸hi))
     simp[this,e]
    ·exact .inr ⟨k,c,e,z.sameBut hs (cne y c e)⟩
  ·obtain⟨w',z⟩:=I.cell y c e
   exact⟨w',z.sameBut hs (cne y c e)⟩
  ·obtain⟨e,n,ne,nf,d⟩:=I.pin p hp
   exact⟨(hs.2 p.1 ne).trans e,n,ne,nf,d⟩
 ·have hfn:X.fn x=true:=by
   rcases hf with z | z
   ·exact z
   ·rw[z] at hk;cases hk
  obtain⟨c,hc⟩:=I.ok.has x (.inl hk)
  obtain⟨w',z⟩:=I.cell x c hc
  refine wpAny_storeName_cell I.ok.kind hk hc z (fun h' hc' hs=>?_)
  obtain⟨oc,hoc,hocd⟩:=id z
  refine h { s with heap:=h' } ⟨I.ok,I.os,I.bare,⟨fun b o e n hb hx=>?_,fun b o e n hb hx=>?_,I.base.free,fun b o e hx=>?_,I.base.tups,I.base.frzs,I.base.tbls,I.base.tabs⟩,⟨m,hn.sameBut hs (Ne.symm (cne x c hc)),fun j y v' e1 e2 e3=>?_⟩,fun y c' e=>?_,I.free,I.freeC,fun p hp=>?_,tracked ⟨oc,hoc,(I.freeC x c hc).resolve_right fun z=>by have z1:=z.1;rw[hfn] at z1;cases z1⟩ hs,by simpa using I.len⟩ ⟨c,hs,.inr hc⟩
  ·exact (hs.2 b (Nat.ne_of_lt (Nat.lt_of_lt_of_le (Heap.lt_size e) (I.ok.cab x c hfn hc)))).trans (I.base.keep b o e n hb hx)
  ·obtain⟨sl,e1⟩:=I.base.slot b o e n hb hx
   exact⟨sl,(hs.2 b (Nat.ne_of_lt (Nat.lt_of_lt_of_le (Heap.lt_size e) (I.ok.cab x c hfn hc)))).trans e1⟩
  ·obtain⟨o',e1⟩:=I.base.there b o e hx
   exact⟨o',(hs.2 b (Nat.ne_of_lt (Nat.lt_of_lt_of_le (Heap.lt_size e) (I.ok.cab x c hfn hc)))).trans e1⟩
  ·by_cases hj:j=i
   ·subst hj
    rw[hi] at e1;cases e1
    rw[List.getElem?_set_self hiσ] at e2
    cases e2
    exact⟨u,r,.inr ⟨.inl hk,c,hc,hc'⟩⟩
   ·rw[List.getElem?_set_ne (Ne.symm hj)] at e2
    obtain⟨u',r',q⟩:=hl j y v' e1 e2 e3
    refine⟨u',r',?_⟩
    rcases q with q | ⟨k,c',e,z'⟩
    ·exact .inl q
    ·refine .inr ⟨k,c',e,z'.sameBut hs ?_⟩
     rintro rfl
     exact hj (nodup_ix hN e1 (I.ok.inj _ _ _ e hc▸hi))
  ·by_cases hcc:c'=c
   ·subst hcc;exact⟨_,hc'⟩
   ·obtain⟨w2,z2⟩:=I.cell y c' e
    exact⟨w2,z2.sameBut hs hcc⟩
  ·obtain⟨e,n,ne,nf,d⟩:=I.pin p hp
   refine⟨(hs.2 p.1 ?_).trans e,n,ne,nf,d⟩
   intro q
   rw[q,hoc] at e
   have q':oc=p.2:=Option.some.inj e
   exact d w' (by rw[← q'];exact hocd)
theorem store_ok {M:Model}{A:Around}{E:Value->Shared->Prop}{i:Nat}{x:Str}{v:V}{u:Value}{Q:Unit->Shared->Prop}(I:Inv X pins σ H s)(hN:X.N.Nodup)(hi:X.N[i]?=some x)(hx:Loc X.env.scope x)(r:RelV v u)
  (h:∀ s',Inv X pins (σ.set i (some v)) H s'->Q () s') (hf:X.fn x=true∨X.env.scope.names.lookup x=some .local:=by first | exact .inl rfl | exact .inr rfl | assumption):wpAny M A (storeName X.env x u) Q E s:=
 store_ok2 I hN hi hx r (fun s' I' _=>h s' I') hf
theorem Inv.call' {s':Shared}{ch:List Addr}(I:Inv X pins σ H s)(ho:s'.os=s.os)(u:Un (frs X.stack) ch H H' s.heap s'.heap)(hok:HOk X.prog X.w H' s'.heap)(hg:AllBare s'.gens)
  (hch:∀ b∈ch,(b∈X.ex∨X.s₀.heap.objs.size≤b)∧b≠X.env.locals∧(∀ x c,X.env.cells.lookup x=some c->c≠b)∧∀ p∈X.pn++pins,p.1≠b):Inv X pins σ H' s':=by
 obtain⟨h',g',d',t',o'⟩:=s'
 have e:o'=s.os:=ho
 subst e
 exact I.call (g':=g') (t':=t') (d':=d') u hok hg hch
end
abbrev XK:=Value->Option Addr->Hp->Prop
abbrev St:=List (Option V)
abbrev VK:=V->Hp->Prop
abbrev TE:=St->Hp->VK->Prop
abbrev TT:=St->Hp->(Bool->Hp->Prop)->Prop
abbrev TA:=St->Hp->(List V->Hp->Prop)->Prop
structure Ends where
 nx:St->Hp->Prop
 rt:VK
 bk:St->Hp->Prop:=fun _ _=>False
 ct:St->Hp->Prop:=fun _ _=>False
abbrev TS:=Ends->St->Hp->Prop
inductive EP (X:Cx)(pins:List (Addr×Obj))(σ:St)(Q:VK)(u:Value)(s':Shared):Prop
 | mk (v:V) (H':Hp) (I:Inv X pins σ H' s') (r:RelV v u) (q:Q v H'):EP X pins σ Q u s'
inductive TP (X:Cx)(pins:List (Addr×Obj))(σ:St)(Q:Bool->Hp->Prop)(b:Bool)(s':Shared):Prop
 | mk (H':Hp) (I:Inv X pins σ H' s') (q:Q b H'):TP X pins σ Q b s'
theorem TP.elim {X:Cx}{pins:List (Addr×Obj)}{σ:St}{Q:Bool->Hp->Prop}{b:Bool}{s':Shared}{P:Prop}(h:TP X pins σ Q b s')(k:∀ H',Inv X pins σ H' s'->Q b H'->P):P:=by cases h with | mk H' I q=>exact k H' I q
inductive AP (X:Cx)(pins:List (Addr×Obj))(σ:St)(Q:List V->Hp->Prop)(us:List Value)(s':Shared):Prop
 | mk (vs:List V) (H':Hp) (I:Inv X pins σ H' s') (r:Vals vs us) (q:Q vs H'):AP X pins σ Q us s'
def SP (X:Cx)(pins:List (Addr×Obj))(D:Ends)(f:Flow)(s':Shared):Prop:=
 match f with
 | .next=>∃ σ' H',Inv X pins σ' H' s'∧D.nx σ' H'
 | .brk=>∃ σ' H',Inv X pins σ' H' s'∧D.bk σ' H'
 | .cont=>∃ σ' H',Inv X pins σ' H' s'∧D.ct σ' H'
 | .ret u=>∃ v σ' H',Inv X pins σ' H' s'∧RelV v u∧D.rt v H'
def PE (X:Cx)(e:Expr)(t:TE):Prop:=
 ∀ (pins:List (Addr×Obj)) (s:Shared) (σ:St) (H:Hp) (Q:VK),Inv X pins σ H s->t σ H Q->wpAny (model X.prog X.w) X.A (eval e X.env) (EP X pins σ Q) X.xe s
def PT (X:Cx)(e:Expr)(t:TT):Prop:=
 ∀ (pins:List (Addr×Obj)) (s:Shared) (σ:St) (H:Hp) (Q:Bool->Hp->Prop),Inv X pins σ H s->t σ H Q->wpAny (model X.prog X.w) X.A (isTrue e X.env (eval e X.env)) (TP X pins σ Q) X.xe s
def PW (X:Cx)(e:Expr)(t:TT):Prop:=
 ∀ (whole:Sem Value) (pins:List (Addr×Obj)) (s:Shared) (σ:St) (H:Hp) (Q:Bool->Hp->Prop),Inv X pins σ H s->t σ H Q->wpAny (model X.prog X.w) X.A (isTrue e X.env whole) (TP X pins σ Q) X.xe s
theorem PW.pt {X:Cx}{e:Expr}{t:TT}(h:PW X e t):PT X e t:=h _
def PA (X:Cx)(es:List Expr)(t:TA):Prop:=
 ∀ (pos:Pos) (pins:List (Addr×Obj)) (s:Shared) (σ:St) (H:Hp) (Q:List V->Hp->Prop),Inv X pins σ H s->t σ H Q->wpAny (model X.prog X.w) X.A (spliced (backTo pos (starEach es X.env))) (AP X pins σ Q) X.xe s
def PS (X:Cx)(st:Stmt)(t:TS):Prop:=
 ∀ (pins:List (Addr×Obj)) (s:Shared) (σ:St) (H:Hp) (D:Ends),Inv X pins σ H s->t D σ H->wpAny (model X.prog X.w) X.A (exec st X.env) (SP X pins D) X.xe s
def PSs (X:Cx)(st:List Stmt)(t:TS):Prop:=
 ∀ (pins:List (Addr×Obj)) (s:Shared) (σ:St) (H:Hp) (D:Ends),Inv X pins σ H s->t D σ H->wpAny (model X.prog X.w) X.A (execs st X.env) (SP X pins D) X.xe s
theorem thn {α:Type}{t:Sem α}{Q Q':α->Shared->Prop}{M:Model}{A:Around}{E:Value->Shared->Prop}{s:Shared}(h:wpAny M A t Q E s)(hQ:∀ a s,Q a s->Q' a s):wpAny M A t Q' E s:=wpAny_mono h hQ fun _ _ x=>x
end L2
namespace L2
section
variable {X:Cx}
def tVar (i:Nat):TE:=fun σ H Q=>∃ v,σ[i]?=some (some v)∧Q v H
def tC (v:V):TE:=fun _ H Q=>Q v H
theorem pe_var {i:Nat}{x:Str}{pos:Pos}(hN:X.N[i]?=some x)(hv:Vis X.env.scope x)(hd:(x==("__debug__":Str))=false:=by decide)(hcd:(x==("__classdict__":Str))=false:=by decide):PE X (.Name x pos) (tVar i):=by
 intro pins s σ H Q I h
 revert h
 refine fun zqq=>?_;obtain⟨v,e,h⟩:=zqq
 obtain⟨m,hn,hl⟩:=I.loc
 obtain⟨u,r,l⟩:=hl i x v hN e hv
 have fin:EP X pins σ Q u s:=⟨v,H,I,r,h⟩
 rcases l with ⟨hk,hm⟩ | ⟨hk,c,hc,hcell⟩
 ·exact wpAny_Name (wpAny_loadName_local I.ok.kind hk hn hm fin) hd
 ·rcases hk with hk | hk
  ·exact wpAny_Name (wpAny_loadName_cell I.ok.kind hk hc hcell fin) hd
  ·exact wpAny_Name (wpAny_loadName_free I.ok.kind hk hc hcell fin hcd) hd
theorem pe_int {i j pos}:PE X (.Constant (.int i) j pos) (tC (.int i)):=fun _ _ _ H _ I h=>wpAny_Constant_int ⟨.int i,H,I.tok _,⟨_,rfl⟩,h⟩
theorem pe_bl {b j pos}:PE X (.Constant (.bool b) j pos) (tC (.bl b)):=fun _ _ _ H _ I h=>Constant_bool ⟨.bl b,H,I,rfl,h⟩
theorem pe_non {j pos}:PE X (.Constant .none j pos) (tC .non):=fun _ _ _ H _ I h=>Constant_none ⟨.non,H,I,rfl,h⟩
theorem pe_str {x j pos}:PE X (.Constant (.str x) j pos) (tC (.str x)):=fun _ _ _ H _ I h=>Calls.Constant_str ⟨.str x,H,I.tok _,⟨_,rfl⟩,h⟩
def Gl (X:Cx)(x:Str):Prop:=X.env.kindOf x=some .globalImplicit
theorem ld_glob {E:Value->Shared->Prop}{pins:List (Addr×Obj)}{s:Shared}{σ:St}{H:Hp}{x:Str}{u:Value}{pos:Pos}{Q:Value->Shared->Prop}(I:Inv X pins σ H s)(hg:Gl X x)(hm:X.mg x=some u)(h:Q u s)
  (hd:(x==("__debug__":Str))=false:=by decide):wpAny (model X.prog X.w) X.A (eval (.Name x pos) X.env) Q E s:=
 Calls.Name_function_global I.ok.kind hg (Calls.loadGlobal_global (by rw[I.ok.glob];exact I.mod.glob.keeps I.bk) hm h) hd
theorem ld_blt {E:Value->Shared->Prop}{pins:List (Addr×Obj)}{s:Shared}{σ:St}{H:Hp}{x:Str}{u:Value}{pos:Pos}{Q:Value->Shared->Prop}(I:Inv X pins σ H s)(hg:Gl X x)(hm:X.mg x=none)(hv:bootBuiltins x=some u)(h:Q u s)
  (hn:x≠"__name__":=by decide) (hd:(x==("__debug__":Str))=false:=by decide):wpAny (model X.prog X.w) X.A (eval (.Name x pos) X.env) Q E s:=by
 obtain⟨mb,h1,h2⟩:=I.mod.blt
 exact Calls.Name_function_global I.ok.kind hg (Calls.loadGlobal_builtin (by rw[I.ok.glob];exact I.mod.glob.keeps I.bk) hm (by rw[I.ok.blt];exact h1.keeps I.bk) ((h2 x hn).trans hv) h) hd
theorem pe_glob {x:Str}{v:V}{u:Value}{pos:Pos}(hg:Gl X x)(hm:X.mg x=some u)(r:RelV v u)(hd:(x==("__debug__":Str))=false:=by decide):PE X (.Name x pos) (tC v):=
 fun _ _ _ H _ I h=>ld_glob I hg hm ⟨v,H,I,r,h⟩ hd
theorem pe_bltn {x:Str}{v:V}{u:Value}{pos:Pos}(hg:Gl X x)(hm:X.mg x=none)(hv:bootBuiltins x=some u)(r:RelV v u)(hn:x≠"__name__":=by decide)(hd:(x==("__debug__":Str))=false:=by decide):PE X (.Name x pos) (tC v):=
 fun _ _ _ H _ I h=>ld_blt I hg hm hv ⟨v,H,I,r,h⟩ hn hd
def t2I (ta tb:TE)(k:Int->Int->Hp->Prop):St->Hp->Prop:=fun σ H=>ta σ H fun x H1=>tb σ H1 fun y H2=>∃ i j,x=.int i∧y=.int j∧k i j H2
variable {a b:Expr}{ta tb:TE}{pos:Pos}
def PC (X:Cx)(op:CmpOp)(a b:Expr)(t:TE):Prop:=
 ∀ (pins:List (Addr×Obj)) (s:Shared) (σ:St) (H:Hp) (Q:VK),Inv X pins σ H s->t σ H Q ->
  wpAny (model X.prog X.w) X.A (eval a X.env) (fun v s₁=>wpAny (model X.prog X.w) X.A (eval b X.env) (fun u s₂=>wpAny (model X.prog X.w) X.A (compareOp op v u) (EP X pins σ Q) X.xe s₂) X.xe s₁) X.xe s
def tCmp (p:Int->Int->Bool)(ta tb:TE):TE:=fun σ H Q=>t2I ta tb (fun i j H2=>Q (.bl (p i j)) H2) σ H
abbrev tLt:TE->TE->TE:=tCmp fun i j=>decide (i<j)
abbrev tLe:TE->TE->TE:=tCmp fun i j=>decide (i≤j)
abbrev tGt:TE->TE->TE:=tCmp fun i j=>decide (j<i)
abbrev tGe:TE->TE->TE:=tCmp fun i j=>decide (j≤i)
abbrev tEqI:TE->TE->TE:=tCmp fun i j=>decide (i=j)
abbrev tNeI:TE->TE->TE:=tCmp fun i j=>!decide (i=j)
def tB (t:TE):TT:=fun σ H Q=>t σ H fun x H1=>∃ c,x=.bl c∧Q c H1
theorem pt_val {e:Expr}{t:TE}(h:PE X e t)(he:∀ whole,isTrue e X.env whole=(do let v ← whole;standAt e.pos;holding [v] (truthy v)):=by intro _;rfl):PT X e (tB t):=by
 intro pins s σ H Q I hw
 refine isTrue_plain (thn (h pins s σ H _ I hw) fun v s1 ⟨x,H1,I1,r1,q1⟩=>?_) (he _)
 revert q1
 refine fun zqq=>?_;obtain⟨d,zq1,q⟩:=zqq
 subst zq1
 cases r1
 exact wpAny_truthy_bool ⟨H1,I1,q⟩
variable {tA tB':TT}{rest:List Expr}
def tAnd (t u:TT):TT:=fun σ H Q=>t σ H fun c H1=>if c=true then u σ H1 Q else Q false H1
def tOr (t u:TT):TT:=fun σ H Q=>t σ H fun c H1=>if c=true then Q true H1 else u σ H1 Q
def tNot (t:TT):TT:=fun σ H Q=>t σ H fun c H1=>Q (!c) H1
theorem pw_and1 (ha:PT X a tA):PW X (.BoolOp .And [a] pos) tA:=by
 intro wh pins s σ H Q I h
 refine isTrue_and (thn (ha pins s σ H Q I h) fun c s1 e=>?_)
 cases c with
 | true=>exact isTrue_and_nil e
 | false=>exact e
theorem pw_or1 (ha:PT X a tA):PW X (.BoolOp .Or [a] pos) tA:=by
 intro wh pins s σ H Q I h
 refine isTrue_or (thn (ha pins s σ H Q I h) fun c s1 e=>?_)
 cases c with
 | false=>exact isTrue_or_nil e
 | true=>exact e
theorem pw_and (ha:PT X a tA)(hb:PW X (.BoolOp .And (b::rest) pos) tB'):PW X (.BoolOp .And (a::b::rest) pos) (tAnd tA tB'):=by
 intro wh pins s σ H Q I h
 refine isTrue_and (thn (ha pins s σ H _ I h) fun c s1 zpat=>?_)
 obtain⟨H1,I1,q1⟩:=zpat
 cases c with
 | true=>exact hb wh pins s1 σ H1 Q I1 q1
 | false=>exact⟨H1,I1,q1⟩
theorem pw_or (ha:PT X a tA)(hb:PW X (.BoolOp .Or (b::rest) pos) tB'):PW X (.BoolOp .Or (a::b::rest) pos) (tOr tA tB'):=by
 intro wh pins s σ H Q I h
 refine isTrue_or (thn (ha pins s σ H _ I h) fun c s1 zpat=>?_)
 obtain⟨H1,I1,q1⟩:=zpat
 cases c with
 | true=>exact⟨H1,I1,q1⟩
 | false=>exact hb wh pins s1 σ H1 Q I1 q1
theorem pt_not (ha:PT X a tA):PT X (.UnaryOp .Not a pos) (tNot tA):=by
 intro pins s σ H Q I h
 exact isTrue_not (wpAny_mono (ha pins s σ H (fun c H1=>Q (!c) H1) I h) (fun c s' q=>q.elim fun H' I' q'=>⟨H',I',q'⟩) fun _ _ z=>z)
def tAndV (ta tb:TE):TE:=fun σ H Q=>ta σ H fun x H1=>∃ c,x=.bl c∧if c=true then tb σ H1 Q else Q (.bl false) H1
def tNotV (ta:TE):TE:=fun σ H Q=>ta σ H fun x H1=>∃ c,x=.bl c∧Q (.bl (!c)) H1
theorem pe_one {op}{t:TE}(h:PE X a t):PE X (.BoolOp op [a] pos) t:=fun pins s σ H Q I hw=>BoolOp_one (h pins s σ H Q I hw)
theorem pe_and (ha:PE X a ta)(hb:PE X (.BoolOp .And (b::rest) pos) tb):PE X (.BoolOp .And (a::b::rest) pos) (tAndV ta tb):=by
 intro pins s σ H Q I h
 refine BoolOp_and (thn (ha pins s σ H _ I h) fun v s1 zpat=>?_)
 obtain⟨x,H1,I1,r1,q1⟩:=zpat
 revert q1
 refine fun zqq=>?_;obtain⟨c,zq1,q1⟩:=zqq
 subst zq1
 cases r1
 refine wpAny_truthy_bool ?_
 cases c with
 | true=>exact hb pins s1 σ H1 Q I1 q1
 | false=>exact⟨.bl false,H1,I1,rfl,q1⟩
theorem pe_not (ha:PE X a ta):PE X (.UnaryOp .Not a pos) (tNotV ta):=by
 intro pins s σ H Q I h
 refine UnaryOp_ (thn (ha pins s σ H _ I h) fun v s1 zpat=>?_)
 obtain⟨x,H1,I1,r1,q1⟩:=zpat
 revert q1
 refine fun zqq=>?_;obtain⟨c,zq1,q1⟩:=zqq
 subst zq1
 cases r1
 exact not_of (wpAny_truthy_bool ⟨.bl (!c),H1,I1,rfl,q1⟩)
def tIf (t:TT)(ta tb:TE):TE:=fun σ H Q=>t σ H fun c H1=>if c=true then ta σ H1 Q else tb σ H1 Q
theorem pe_ifExp {c:Expr}(hc:PT X c tA)(ha:PE X a ta)(hb:PE X b tb):PE X (.IfExp c a b pos) (tIf tA ta tb):=by
 intro pins s σ H Q I h
 refine wpAny_IfExp (thn (hc pins s σ H _ I h) fun d s1 zpat=>?_)
 obtain⟨H1,I1,q1⟩:=zpat
 cases d with
 | true=>exact ha pins s1 σ H1 Q I1 q1
 | false=>exact hb pins s1 σ H1 Q I1 q1
end
end L2
namespace L2
def SqL (K:PySem.W.Frag)(H:Hp)(a:Addr)(xs:List V):Prop:=
 Rd H a (.lst xs) ∨
  ∃ (o:Obj) (its:Array Value) (n:Nat),K.lookup a=some o∧o.cls=.type "list"∧o.dict=none∧o.data=.seq its n∧its.size≤sizeLine∧Vals xs its.toList
def SqT (K:PySem.W.Frag)(H:Hp)(a:Addr)(xs:List V):Prop:=
 Rd H a (.tup xs) ∨
  ∃ (o:Obj) (its:Array Value) (n:Nat),K.lookup a=some o∧o.cls=.type "tuple"∧o.data=.seq its n∧its.size≤sizeLine∧Vals xs its.toList
def absV:Value->Option V
 | .none=>some .non
 | .bool b=>some (.bl b)
 | .int i _=>some (.int i)
 | .str x _=>some (.str x)
 | .bytes b _=>some (.byt b)
 | .float b _=>some (.flt b)
 | .ref a=>some (.ref a)
 | .type n=>some (.ty n)
 | _=>none
theorem RelV.abs {x:V}{u:Value}(r:RelV x u):absV u=some x:=by
 cases x with
 | non=>cases r;rfl
 | bl _=>cases r;rfl
 | int _=>obtain⟨t,rfl⟩:=r;rfl
 | str _=>obtain⟨t,rfl⟩:=r;rfl
 | byt _=>obtain⟨t,rfl⟩:=r;rfl
 | flt _=>obtain⟨t,rfl⟩:=r;rfl
 | ref _=>cases r;rfl
 | ty _=>cases r;rfl
theorem RelV.inj {x y:V}{u:Value}(r:RelV x u)(q:RelV y u):x=y:=Option.some.inj (r.abs.symm.trans q.abs)
theorem Vals.inj {xs ys:List V}{us:List Value}(h:Vals xs us)(h':Vals ys us):xs=ys:=by
 induction h generalizing ys with
 | nil=>cases h';rfl
 | cons r t ih=>
  cases h' with
  | cons r' t'=>rw[r.inj r',ih t']
section
variable {X:Cx}{pins:List (Addr×Obj)}{σ:St}{H:Hp}{s:Shared}{a:Addr}{xs ys:List V}
theorem SqL.of {K:PySem.W.Frag}(h:H a=some (.lst xs)):SqL K H a xs:=.inl (.inl h)
theorem SqT.of {K:PySem.W.Frag}(h:H a=some (.tup xs)):SqT K H a xs:=.inl (.inl h)
theorem Inv.list (I:Inv X pins σ H s)(h:SqL X.K H a xs):∃ its:List Value,Vals xs its∧PlainL s.heap a its.toArray∧xs.length≤sizeLine:=by
 rcases h with h | ⟨o,its,n,hk,hc,hd,hs,hz,r⟩
 ·obtain⟨z,its,n,r,e⟩:=h.ok I.hok
  exact⟨its,r,⟨_,n,e,rfl,rfl,rfl⟩,z⟩
 ·refine⟨its.toList,r,⟨o,n,I.kIn a o hk,hc,hd,by simpa using hs⟩,?_⟩
  have e:=r.length
  simp only[Array.length_toList] at e
  omega
theorem Inv.tuple (I:Inv X pins σ H s)(h:SqT X.K H a xs):∃ its:List Value,Vals xs its∧IsTup s.heap a its.toArray∧xs.length≤sizeLine:=by
 rcases h with h | ⟨o,its,n,hk,hc,hs,hz,r⟩
 ·obtain⟨z,its,r,p⟩:=h.ok I.hok
  exact⟨its,r,p,z⟩
 ·refine⟨its.toList,r,⟨o,I.kIn a o hk,hc,n,by simpa using hs⟩,?_⟩
  have e:=r.length
  simp only[Array.length_toList] at e
  omega
theorem Inv.list_inj (I:Inv X pins σ H s)(h:SqL X.K H a xs)(h':SqL X.K H a ys):xs=ys:=by
 obtain⟨its,r,⟨o,n,e,_,_,d⟩,_⟩:=I.list h
 obtain⟨its',r',⟨o',n',e',_,_,d'⟩,_⟩:=I.list h'
 rw[e] at e';cases e'
 rw[d] at d'
 injection d' with d1 _
 have:its=its':=by simpa using congrArg Array.toList d1
 subst this
 exact r.inj r'
end
abbrev Cx.wish (X:Cx)(E:Value->Shared->Prop):Cx:={ X with xe:=E }
abbrev Cx.nox (X:Cx):Cx:=X.wish fun _ _=>False
theorem Cx.Ok.wish {X:Cx}(ok:X.Ok)(E:Value->Shared->Prop):(X.wish E).Ok:=
 ⟨ok.mod,ok.kind,ok.glob,ok.blt,ok.above,ok.inj,ok.has,ok.cab,ok.hd,ok.frames,ok.stk,ok.exf,ok.bs,ok.bsz,ok.noex,ok.exfs,ok.funs,ok.frf,ok.tabs⟩
theorem Cx.Ok.unwish {X:Cx}{E:Value->Shared->Prop}(ok:(X.wish E).Ok):X.Ok:=
 ⟨ok.mod,ok.kind,ok.glob,ok.blt,ok.above,ok.inj,ok.has,ok.cab,ok.hd,ok.frames,ok.stk,ok.exf,ok.bs,ok.bsz,ok.noex,ok.exfs,ok.funs,ok.frf,ok.tabs⟩
section
variable {X:Cx}{pins:List (Addr×Obj)}{σ:St}{H:Hp}{s:Shared}{E:Value->Shared->Prop}
theorem Inv.wish (I:Inv X pins σ H s)(E:Value->Shared->Prop):Inv (X.wish E) pins σ H s:=⟨I.ok.wish E,I.os,I.bare,I.base,I.loc,I.cell,I.free,I.freeC,I.pin,I.hok,I.len⟩
theorem Inv.unwish (I:Inv (X.wish E) pins σ H s):Inv X pins σ H s:=⟨I.ok.unwish,I.os,I.bare,I.base,I.loc,I.cell,I.free,I.freeC,I.pin,I.hok,I.len⟩
theorem SP.unwish {D:Ends}{f:Flow}{s':Shared}(h:SP (X.wish E) pins D f s'):SP X pins D f s':=by
 cases f with
 | next=>obtain⟨σ',H',I,q⟩:=h;exact⟨σ',H',I.unwish,q⟩
 | brk=>obtain⟨σ',H',I,q⟩:=h;exact⟨σ',H',I.unwish,q⟩
 | cont=>obtain⟨σ',H',I,q⟩:=h;exact⟨σ',H',I.unwish,q⟩
 | ret u=>obtain⟨v,σ',H',I,r,q⟩:=h;exact⟨v,σ',H',I.unwish,r,q⟩
theorem PE.nox {e:Expr}{t:TE}(h:PE X.nox e t):PE X e t:=fun pins s σ H Q I hw=>
 wpAny_mono (h pins s σ H Q (I.wish _) hw) (fun _ _ ⟨v,H',I',r,q⟩=>⟨v,H',I'.unwish,r,q⟩) fun _ _ z=>False.elim z
theorem PT.nox {e:Expr}{t:TT}(h:PT X.nox e t):PT X e t:=fun pins s σ H Q I hw=>
 wpAny_mono (h pins s σ H Q (I.wish _) hw) (fun _ _ ⟨H',I',q⟩=>⟨H',I'.unwish,q⟩) fun _ _ z=>False.elim z
theorem PSs.nox {st:List Stmt}{t:TS}(h:PSs X.nox st t):PSs X st t:=fun pins s σ H D I hw=>
 wpAny_mono (h pins s σ H D (I.wish _) hw) (fun _ _ q=>q.unwish) fun _ _ z=>False.elim z
end
section
variable {X:Cx}{st:Stmt}{rest:List Stmt}{t u:TS}{e:Expr}{te:TE}{pos:Pos}
def tNext:TS:=fun D σ H=>D.nx σ H
def tSeq (t u:TS):TS:=fun D σ H=>t { D with nx:=u D } σ H
theorem pss_nil:PSs X [] tNext:=fun _ _ σ H _ I h=>wpAny_execs_nil ⟨σ,H,I,h⟩
theorem pss_cons (h1:PS X st t)(h2:PSs X rest u):PSs X (st::rest) (tSeq t u):=by
 intro pins s σ H D I h
 refine wpAny_execs_cons (thn (h1 pins s σ H { D with nx:=u D } I h) fun f s1 q=>?_)
 cases f with
 | next=>
  revert q
  refine fun zqq=>?_;obtain⟨σ',H',I',q⟩:=zqq
  exact h2 pins s1 σ' H' D I' q
 | ret v=>exact q
 | brk=>exact q
 | cont=>exact q
theorem pss_one (h1:PS X st t):PSs X [st] t:=by
 intro pins s σ H D I h
 refine wpAny_execs_cons (thn (h1 pins s σ H D I h) fun f s1 q=>?_)
 cases f with
 | next=>exact wpAny_execs_nil q
 | ret v=>exact q
 | brk=>exact q
 | cont=>exact q
theorem Inv.quiet {pins:List (Addr×Obj)}{σ:St}{H:Hp}{s:Shared}(I:Inv X pins σ H s):interactive X.env=false:=by simp[interactive,I.ok.kind]
def tDrop (te:TE):TS:=fun D σ H=>te σ H fun _ H1=>D.nx σ H1
theorem ps_expr (he:PE X e te)(hs:swapsWith e none pos.line X.env=pure false:=by rfl):PS X (.Expr e pos) (tDrop te):=by
 intro pins s σ H D I h
 exact wpAny_Expr_any (thn (he pins s σ H _ I h) fun v s1 ⟨x,H1,I1,r1,q1⟩=>⟨σ,H1,I1,q1⟩) I.quiet hs
def tRet (te:TE):TS:=fun D σ H=>te σ H D.rt
theorem ps_ret (he:PE X e te):PS X (.Return (some e) pos) (tRet te):=by
 intro pins s σ H D I h
 exact wpAny_Return_some (thn (he pins s σ H _ I h) fun v s1 ⟨x,H1,I1,r1,q1⟩=>⟨x,σ,H1,I1,r1,q1⟩)
def tIfS (c:TT)(t u:TS):TS:=fun D σ H=>c σ H fun b H1=>if b=true then t D σ H1 else u D σ H1
theorem ps_if {c:Expr}{a b:List Stmt}{tc:TT}(hc:PT X c tc)(ha:PSs X a t)(hb:PSs X b u):PS X (.If c a b pos) (tIfS tc t u):=by
 intro pins s σ H D I h
 refine wpAny_If (thn (hc pins s σ H _ I h) fun d s1 zpat=>?_)
 obtain⟨H1,I1,q1⟩:=zpat
 cases d with
 | true=>exact ha pins s1 σ H1 D I1 q1
 | false=>exact hb pins s1 σ H1 D I1 q1
end
abbrev TG:=V->St->Hp->(St->Hp->Prop)->Prop
abbrev TGs:=List V->St->Hp->(St->Hp->Prop)->Prop
def PG (X:Cx)(target:Expr)(t:TG):Prop:=
 ∀ (pins:List (Addr×Obj)) (s:Shared) (σ:St) (H:Hp) (v:V) (u:Value) (Q:St->Hp->Prop),Inv X pins σ H s->RelV v u->t v σ H Q ->
  wpAny (model X.prog X.w) X.A (assign target X.env u) (fun _ s'=>∃ σ' H',Inv X pins σ' H' s'∧Q σ' H') X.xe s
def PGs (X:Cx)(ts:List Expr)(t:TGs):Prop:=
 ∀ (pins:List (Addr×Obj)) (s:Shared) (σ:St) (H:Hp) (vs:List V) (us:List Value) (Q:St->Hp->Prop),Inv X pins σ H s->Vals vs us->t vs σ H Q ->
  wpAny (model X.prog X.w) X.A (assignInOrder ((assignEach ts X.env).map (·.2)) us) (fun _ s'=>∃ σ' H',Inv X pins σ' H' s'∧Q σ' H') X.xe s
abbrev TSet:=V->V->V->Hp->(Hp->Prop)->Prop
abbrev TIp:=V->V->Hp->VK->Prop
section
variable {X:Cx}{pos:Pos}
def gName (i:Nat):TG:=fun v σ H Q=>Q (σ.set i (some v)) H
theorem pg_name {i:Nat}{x:Str}(hN:X.N.Nodup)(hi:X.N[i]?=some x)(hx:Loc X.env.scope x)(hf:X.fn x=true∨X.env.scope.names.lookup x=some .local:=by first | exact .inl rfl | exact .inr rfl | assumption):PG X (.Name x pos) (gName i):=by
 intro pins s σ H v u Q I r h
 exact wpAny_assign_Name (store_ok I hN hi hx r (fun s' I'=>⟨_,H,I',h⟩) hf)
def gNil:TGs:=fun vs σ H Q=>vs=[]∧Q σ H
def gCons (t:TG)(u:TGs):TGs:=fun vs σ H Q=>∃ v r,vs=v::r∧t v σ H fun σ' H'=>u r σ' H' Q
theorem pgs_nil:PGs X [] gNil:=by
 intro pins s σ H vs us Q I r h
 revert h
 refine fun zqq=>?_;obtain⟨e,h⟩:=zqq
 subst e
 cases r
 exact assignInOrder_nil ⟨σ,H,I,h⟩
theorem pgs_cons {e:Expr}{es:List Expr}{t:TG}{u:TGs}(h1:PG X e t)(h2:PGs X es u)
  (hs:(assignEach (e::es) X.env).map (·.2)=assign e X.env::(assignEach es X.env).map (·.2):=by rfl):PGs X (e::es) (gCons t u):=by
 intro pins s σ H vs us Q I r h
 revert h
 refine fun zqq=>?_;obtain⟨v,vr,e1,h⟩:=zqq
 subst e1
 cases r with
 | cons r rr=>
  rw[hs]
  refine assignInOrder_cons (thn (h1 pins s σ H _ _ _ I r h) fun _ s1 zpat=>?_)
  obtain⟨σ1,H1,I1,q1⟩:=zpat
  exact h2 pins s1 σ1 H1 _ _ Q I1 rr q1
def gTup (K:PySem.W.Frag)(n:Nat)(t:TGs):TG:=fun v σ H Q=>∃ a xs,v=.ref a∧SqT K H a xs∧xs.length=n∧t xs σ H Q
theorem pg_tup {es:List Expr}{k:Nat}{t:TGs}{n:Nat}(hc:X.calm=true)(h:PGs X es t)
  (hn:(assignEach es X.env).length=n:=by rfl) (hst:(assignEach es X.env).findIdx? (·.1)=none:=by rfl):PG X (.Tuple es k pos) (gTup X.K n t):=by
 intro pins s σ H v u Q I r hw
 revert hw
 refine fun zqq=>?_;obtain⟨a,xs,e1,hq,hl,hw⟩:=zqq
 subst e1
 cases r
 obtain⟨its,rv,ht,hz⟩:=I.tuple hq
 refine assign_Tuple_tuple (I.ok.hd hc) ht (by simp[hn,← hl,rv.length]) hst fun h' hx=>?_
 have I1:Inv X pins σ H { s with heap:=h' }:=I.kept (t':=s.toks) fun b o e=>hx b o (Nat.ne_of_lt (Heap.lt_size e)) e
 exact h pins _ σ H xs _ Q I1 (by simpa using rv) hw
def tAsg (te:TE)(g:TG):TS:=fun D σ H=>te σ H fun x H1=>g x σ H1 D.nx
theorem ps_asg {tg e:Expr}{te:TE}{g:TG}(he:PE X e te)(hg:PG X tg g)(hs:swapsWithSole [tg] e pos.line X.env=pure false:=by rfl)(hw:swappedStores [tg] e X.env=pure none:=by rfl)
  (h1:(assignEach [tg] X.env).map (·.2)=[assign tg X.env]:=by rfl):PS X (.Assign [tg] e pos) (tAsg te g):=by
 intro pins s σ H D I h
 refine wpAny_Assign_stores (thn (he pins s σ H _ I h) fun v s1 ⟨x,H1,I1,r1,q1⟩=>?_) hs hw
 rw[h1]
 exact thn (hg pins s1 σ H1 x v _ I1 r1 q1) fun _ s2 q=>q
theorem ps_set {i:Nat}{x:Str}{e:Expr}{te:TE}{pos':Pos}(hN:X.N.Nodup)(hi:X.N[i]?=some x)(hx:Loc X.env.scope x)(he:PE X e te)(hs:swapsWith e (some (.Name x pos')) pos.line X.env=pure false:=by rfl)(hf:X.fn x=true∨X.env.scope.names.lookup x=some .local:=by first | exact .inl rfl | exact .inr rfl | assumption) :
  PS X (.Assign [.Name x pos'] e pos) (tAsg te (gName i)):=by
 intro pins s σ H D I h
 refine wpAny_Assign_Name (thn (he pins s σ H _ I h) fun v s1 ⟨y,H1,I1,r1,q1⟩=>?_) hs
 exact store_ok I1 hN hi hx r1 (fun s2 I2=>⟨_,H1,I2,q1⟩) hf
end
section
variable {X:Cx}{pos:Pos}
def tWhile (c:TT)(tb:TS):TS:=fun D σ H=>∃ W:Nat->St->Hp->Prop,(∃ m,W m σ H)∧∀ m σ H,W m σ H ->
 c σ H fun b H1=>if b=true then ∃ N:St->Hp->Prop,(∀ σ' H',N σ' H'->∃ m',m'<m∧W m' σ' H')∧tb { D with nx:=N,ct:=N,bk:=D.nx } σ H1 else D.nx σ H1
theorem ps_while {c:Expr}{body:List Stmt}{tc:TT}{tb:TS}(hp:PassesOwn (model X.prog X.w) X.A X.env X.xe)(hc:PT X c tc)(hb:PSs X body tb):PS X (.While c body [] pos) (tWhile tc tb):=by
 intro pins s σ H D I h
 obtain⟨W,⟨m0,w0⟩,turn⟩:=h
 refine wpAny_While (codeAny_whileLoop (fun n s'=>∃ σ' H',Inv X pins σ' H' s'∧W n σ' H') ?_ m0 ⟨σ,H,I,w0⟩)
 rintro n s1 ⟨σ1,H1,I1,w1⟩
 refine wpAny_passesOwn hp (thn (hc pins s1 σ1 H1 _ I1 (turn n σ1 H1 w1)) fun b s2 zpat=>?_)
 obtain⟨H2,I2,q2⟩:=zpat
 cases b with
 | true=>
  revert q2
  refine fun zqq=>?_;obtain⟨N,hN,q2⟩:=zqq
  rw[if_pos rfl]
  refine wpAny_passesOwn hp (thn (hb pins s2 σ1 H2 _ I2 q2) fun f s3 q3=>?_)
  cases f with
  | next=>
   obtain⟨σ3,H3,I3,n3⟩:=id (q3)
   obtain⟨m',hm,w3⟩:=hN σ3 H3 n3
   exact ⟨m',hm,σ3,H3,I3,w3⟩
  | cont=>
   obtain⟨σ3,H3,I3,n3⟩:=id (q3)
   obtain⟨m',hm,w3⟩:=hN σ3 H3 n3
   exact ⟨m',hm,σ3,H3,I3,w3⟩
  | brk=>exact q3
  | ret v=>exact q3
 | false=>
  rw[if_neg Bool.false_ne_true]
  exact wpAny_execs_nil ⟨σ1,H2,I2,q2⟩
end
structure It where
 go:Nat->Hp->Prop
 yld:Nat->Hp->V->Hp->Prop
 stop:Nat->Hp->Prop
def FpOk (X:Cx)(pins:List (Addr×Obj))(H:Hp)(b:Addr):Prop:=
 H b=none∧b≠X.env.locals∧b∉X.fs∧(b∈X.ex∨X.s₀.heap.objs.size≤b)∧(∀ x c,X.env.cells.lookup x=some c->c≠b)∧∀ p∈X.pn++pins,p.1≠b
theorem Inv.fpOk {X:Cx}{pins:List (Addr×Obj)}{σ:St}{H H':Hp}{s:Shared}{b:Addr}(I:Inv X pins σ H s)(hb:s.heap.objs.size≤b)(hn:H' b=none):FpOk X pins H' b:=by
 refine⟨hn,Nat.ne_of_gt (Nat.lt_of_lt_of_le I.lt hb),I.nofs hb,.inr (Nat.le_trans I.sz hb),fun x c e z=>?_,fun p hp z=>?_⟩
 ·obtain⟨v,q⟩:=I.cell x c e
  exact absurd (Nat.lt_of_lt_of_le q.lt (by rw[z];exact hb)) (Nat.lt_irrefl _)
 ·exact absurd (Nat.lt_of_lt_of_le (Heap.lt_size (I.pin p hp).1) (by rw[z];exact hb)) (Nat.lt_irrefl _)
structure Turn (P:Program)(w:World)(K:PySem.W.Frag)(tg:Expr)(J:It)(fp:List Addr)(it:Addr)(tn:Nat->Heap->Prop):Prop where
 mem:it∈fp
 obj:∀ i h,tn i h->∀ b∈fp,∃ o,h.get? b=some o∧∀ v,o.data≠.cell v
 keep:∀ i h h',tn i h->(∀ b∈fp,∀ o,h.get? b=some o->h'.get? b=some o)->tn i h'
 item:∀ (X:Cx),X.prog=P->X.w=w->X.K=K->X.calm=true->∀ (i:Nat) (pins:List (Addr×Obj)) (s:Shared) (σ:St) (H:Hp) (E:Value->Shared->Prop),Inv X pins σ H s->(∀ b∈fp,FpOk X pins H b)->tn i s.heap->J.go i H ->
  wpAny (model P w) X.A (pyNext (.ref it)) (fun r s1=>∃ u,r=some u ∧
   wpAny (model P w) X.A (letOwnedTupleGo tg (.ref it) u) (fun _ s2=>∃ x H',Inv X pins σ H' s2∧RelV x u∧J.yld i H x H'∧tn (i+1) s2.heap∧∀ b∈fp,H' b=none) E s1) E s
 done:∀ (X:Cx),X.prog=P->X.w=w->X.K=K->X.calm=true->∀ (i:Nat) (pins:List (Addr×Obj)) (s:Shared) (σ:St) (H:Hp) (E:Value->Shared->Prop),Inv X pins σ H s->(∀ b∈fp,FpOk X pins H b)->tn i s.heap->J.stop i H ->
  wpAny (model P w) X.A (pyNext (.ref it)) (fun r s1=>r=none∧Inv X pins σ H s1) E s
 self:∀ (A:Around) (i:Nat) (s:Shared) (Q:Value->Shared->Prop) (E:Value->Shared->Prop),tn i s.heap->Q (.ref it) s->wpAny (model P w) A (pyIter (.ref it)) Q E s
abbrev TI:=St->Hp->(It->Hp->Prop)->Prop
def PIE (X:Cx)(pins:List (Addr×Obj))(σ:St)(tg:Expr)(R:It->Hp->Prop)(itv:Value)(s2:Shared):Prop:=
 ∃ (it:Addr) (fp:List Addr) (tn:Nat->Heap->Prop) (J:It) (H':Hp),itv=.ref it∧Inv X pins σ H' s2∧Turn X.prog X.w X.K tg J fp it tn∧tn 0 s2.heap∧(∀ b∈fp,FpOk X pins H' b)∧R J H'
def PI (X:Cx)(tg iter:Expr)(wi:TI):Prop:=
 ∀ (pins:List (Addr×Obj)) (s:Shared) (σ:St) (H:Hp) (R:It->Hp->Prop),Inv X pins σ H s->wi σ H R ->
  wpAny (model X.prog X.w) X.A (eval iter X.env) (fun v s1=>wpAny (model X.prog X.w) X.A (pyIter v) (PIE X pins σ tg R) X.xe s1) X.xe s
theorem go_of {M:Model}{A:Around}{E:Value->Shared->Prop}{s:Shared}{tg:Expr}{it:Addr}{u:Value}{o:Obj}{n:String}{vs:Array Value}{Q:Unit->Shared->Prop}(ho:s.heap.get? it=some o)(hc:o.cls=.type n)(hd:o.data=.fields vs)
  (hn:["enumerate","zip","dict_itemiterator","dict_reverseitemiterator","odict_iterator","itertools.zip_longest","itertools.pairwise"].contains n=false) (hQ:Q () s):wpAny M A (letOwnedTupleGo tg (.ref it) u) Q E s:=by
 unfold letOwnedTupleGo
 cases tg <;> first
  | exact wpAny_pure hQ
  | (cases u <;> first
   | exact wpAny_pure hQ
   | (
    refine wpAny_bind (wpAny_load ho ?_)
    rw[hc,hd]
    show wpAny M A (if (["enumerate","zip","dict_itemiterator","dict_reverseitemiterator","odict_iterator","itertools.zip_longest","itertools.pairwise"].contains n&&vs[0]?==some (rawInt _))=true then _ else _) Q E s
    rw[if_neg (by intro h;rw[hn,Bool.false_and] at h;cases h)]
    exact wpAny_pure hQ))
def Itl (K:PySem.W.Frag)(a:Addr):It:=
 ⟨fun i H=>∃ xs x,SqL K H a xs∧xs[i]?=some x,fun i H x H'=>H'=H∧∀ xs,SqL K H a xs->xs[i]?=some x,fun i H=>∃ xs,SqL K H a xs∧xs.length≤i⟩
def Itr (lo:Int)(n:Nat):It:=⟨fun i _=>i<n,fun i H x H'=>H'=H∧x=.int (lo+i),fun i _=>n≤i⟩
theorem turn_list {P:Program}{w:World}{K:PySem.W.Frag}{tg:Expr}(a it:Addr):Turn P w K tg (Itl K a) [it] it (fun i h=>h.IsListIter it a i) where
 mem:=by simp
 obj:=fun i h st b hb=>by
  have e:b=it:=by simpa using hb
  subst e
  obtain⟨o,e,c,d⟩:=id (st)
  exact⟨o,e,fun v z=>by rw[d] at z;cases z⟩
 keep:=fun i h h' st k=>st.at fun o e=>k it (by simp) o e
 item:=by
  intro X hP hw hK hc i pins s σ H E I hf st hg
  subst hP hw hK
  obtain⟨xs,x,hq,hx⟩:=id (hg)
  obtain⟨its,rv,p,hz⟩:=I.list hq
  obtain⟨u,hu,ru⟩:=rv.get hx
  obtain⟨f0,f1,f2,f3,f4,f5⟩:=hf it (by simp)
  refine wpAny_pyNext_list_item st p.isList (x:=u) (by simpa using hu) fun h' st' sb=>?_
  have I1:Inv X pins σ H { s with heap:=h' }:=I.turned (t':=s.toks) (fun b o hb e=>(sb.2 b hb).trans e) f0 f1 f3 f4 f5
  obtain⟨o,e,c,d⟩:=id st'
  exact⟨u,rfl,go_of (s:={ s with heap:=h' }) e c d (by decide) ⟨x,H,I1,ru,⟨rfl,fun ys hy=>by rw[I.list_inj hy hq];exact hx⟩,st',fun b hb=>(hf b hb).1⟩⟩
 done:=by
  intro X hP hw hK hc i pins s σ H E I hf st hg
  subst hP hw hK
  obtain⟨xs,hq,hx⟩:=id (hg)
  obtain⟨its,rv,p,hz⟩:=I.list hq
  obtain⟨f0,f1,f2,f3,f4,f5⟩:=hf it (by simp)
  have hl:=rv.length
  exact wpAny_pyNext_list_end (I.ok.hd hc) st p.isList (by simp;omega) fun h' eb=>⟨rfl,I.turned (t':=s.toks) (fun b o hb e=>eb b o hb e) f0 f1 f3 f4 f5⟩
 self:=fun _ _ _ _ _ st h=>wpAny_pyIter_listiter st h
theorem turn_range {P:Program}{w:World}{K:PySem.W.Frag}{tg:Expr}(it:Addr)(lo:Int)(n:Nat):Turn P w K tg (Itr lo n) [it] it (fun i h=>IsRangeIter h it (lo+(i:Nat)*1) ((n:Int) - (i:Nat)) 1) where
 mem:=by simp
 obj:=fun i h st b hb=>by
  have e:b=it:=by simpa using hb
  subst e
  exact⟨_,st,fun v z=>by
   have z':Data.fields _=Data.cell v:=z
   cases z'⟩
 keep:=fun i h h' st k=>k it (by simp) _ st
 item:=by
  intro X hP hw hK hc i pins s σ H E I hf st hg
  subst hP hw hK
  obtain⟨f0,f1,f2,f3,f4,f5⟩:=hf it (by simp)
  have W:=Walks.range (prog:=X.prog) (w:=X.w) (I.ok.hd hc) it lo 1 n
  refine W.item i s _ _ hg st fun v h' tk hv st' kk=>?_
  revert hv
  refine fun zqq=>?_;obtain⟨t,zq1⟩:=zqq
  subst zq1
  have I1:Inv X pins σ H { s with heap:=h',toks:=tk }:=I.turned (fun b o hb e=>kk b o (by simpa using hb) e) f0 f1 f3 f4 f5
  refine⟨_,rfl,go_of (s:={ s with heap:=h',toks:=tk }) (n:="range_iterator") st' rfl rfl (by decide) ⟨.int (lo+i),H,I1,⟨t,?_⟩,⟨rfl,rfl⟩,st',fun b hb=>(hf b hb).1⟩⟩
  rw[Int.mul_one]
 done:=by
  intro X hP hw hK hc i pins s σ H E I hf st hg
  subst hP hw hK
  obtain⟨f0,f1,f2,f3,f4,f5⟩:=hf it (by simp)
  exact wpAny_pyNext_range_end (I.ok.hd hc) st (by have:n≤i:=hg;omega) fun h' eb=>⟨rfl,I.turned (t':=s.toks) (fun b o hb e=>eb b o hb e) f0 f1 f3 f4 f5⟩
 self:=fun _ _ _ _ _ st h=>wpAny_pyIter_rangeiter st h
end L2
namespace L2
section
variable {X:Cx}{tg:Expr}
def iList (K:PySem.W.Frag)(tl:TE):TI:=fun σ H R=>tl σ H fun x H1=>∃ a,x=.ref a∧(∃ xs,SqL K H1 a xs)∧R (Itl K a) H1
theorem pi_list {l:Expr}{tl:TE}(hl:PE X l tl):PI X tg l (iList X.K tl):=by
 intro pins s σ H R I h
 refine thn (hl pins s σ H _ I h) fun v s1 zpat=>?_
 obtain⟨x,H1,I1,r1,q1⟩:=zpat
 obtain⟨a,e,⟨xs,hq⟩,q⟩:=q1
 subst e
 cases r1
 obtain⟨its,rv,p,hz⟩:=I1.list hq
 refine wpAny_pyIter_list p.isList ?_
 refine ⟨s1.heap.objs.size,[s1.heap.objs.size],_,_,H1,rfl,(I1.kept (t':=s1.toks) fun b o e=>Heap.get?_push_of_some _ e),turn_list a _,(⟨_,Heap.get?_push_size _ rfl,rfl,rfl⟩),(fun b hb=>?_),q⟩
 have e:b=s1.heap.objs.size:=by simpa using hb
 subst e
 exact I1.fpOk (Nat.le_refl _) (I1.hok.fresh (Nat.le_refl _))
theorem range_it {pins:List (Addr×Obj)}{σ:St}{H:Hp}{s:Shared}{R:It->Hp->Prop}{E:Value->Shared->Prop}{lo hi:Int}{t u v:Tok}{tk:Nat}(I:Inv X pins σ H s)(h1:-(2 ^ 62)≤lo)(h2:lo<2 ^ 62)(h3:-(2 ^ 62)≤hi)(h4:hi<2 ^ 62)
  (q:R (Itr lo (hi - lo).toNat) H):wpAny (model X.prog X.w) X.A (pyIter (.ref s.heap.objs.size)) (PIE X pins σ tg R) E { s with heap:=s.heap.push { cls:=.type "range",data:=.fields #[.int lo t,.int hi u,.int 1 v] },toks:=tk }:=by
 refine wpAny_pyIter_range (IsRange.new ..) (small_one h1 h2 h3 h4) ?_
 have I1:Inv X pins σ H { s with heap:=s.heap.push { cls:=.type "range",data:=.fields #[.int lo t,.int hi u,.int 1 v] },toks:=tk }:=I.kept fun b o e=>Heap.get?_push_of_some _ e
 refine⟨(s.heap.push { cls:=.type "range",data:=.fields #[.int lo t,.int hi u,.int 1 v] }).objs.size,[(s.heap.push { cls:=.type "range",data:=.fields #[.int lo t,.int hi u,.int 1 v] }).objs.size],_,_,H,rfl,
  I1.kept (t':=tk) fun b o e=>Heap.get?_push_of_some _ e,turn_range _ lo (hi - lo).toNat,?_,fun b hb=>?_,q⟩
 ·have e1:lo+((0:Nat):Int)*1=lo:=by simp
  have e2:(((hi - lo).toNat:Nat):Int) - ((0:Nat):Int)=Builtin.Range.rangeSize lo hi 1:=by rw[rangeSize_one];split <;> omega
  show IsRangeIter _ _ (lo+((0:Nat):Int)*1) ((((hi - lo).toNat:Nat):Int) - ((0:Nat):Int)) 1
  rw[e1,e2]
  exact Heap.get?_push_size _ rfl
 ·have e:b=(s.heap.push { cls:=.type "range",data:=.fields #[.int lo t,.int hi u,.int 1 v] }).objs.size:=by simpa using hb
  subst e
  exact I1.fpOk (Nat.le_refl _) (I1.hok.fresh (Nat.le_refl _))
def iRng1 (ta:TA):TI:=fun σ H R=>ta σ H fun vs H1=>∃ j:Int,vs=[.int j]∧-(2 ^ 62)≤j∧j<2 ^ 62∧R (Itr 0 j.toNat) H1
theorem pi_range1 {a:Expr}{ta:TA}{p pos:Pos}(hg:Gl X "range")(hm:X.mg "range"=none)(ha:PA X [a] ta)(hs:starEach [a] X.env=[(false,eval a X.env)]:=by rfl):PI X tg (.Call (.Name "range" p) [a] [] pos) (iRng1 ta):=by
 intro pins s σ H R I h
 refine Call_ (ld_blt I hg hm boot_range (PyProof.Rows.callWith_type1 (thn (ha pos pins s σ H _ I h) fun us s1 ⟨vs,H1,I1,r1,q1⟩=>?_) hs rfl))
 revert q1
 refine fun zqq=>?_;obtain⟨j,e,q1,q2,q⟩:=zqq
 subst e
 cases r1 with
 | cons r rr=>
  cases rr
  revert r
  refine fun zqq=>?_;obtain⟨t,zq1⟩:=zqq
  subst zq1
  exact call_range_1 (range_it I1 (by omega) (by omega) q1 q2 (by simpa using q))
def tFor (wi:TI)(g:TG)(tb:TS):TS:=fun D σ H=>wi σ H fun J H1=>∃ W:Nat->Nat->St->Hp->Prop,(∃ m,W 0 m σ H1)∧∀ i m σ H,W i m σ H ->
 (J.stop i H∧D.nx σ H)∨(J.go i H∧∃ N:St->Hp->Prop,(∀ σ' H',N σ' H'->∃ m',m'<m∧W (i+1) m' σ' H')∧∀ x H',J.yld i H x H'->g x σ H' fun σ2 H2=>tb { D with nx:=N,ct:=N,bk:=D.nx } σ2 H2)
def pinsAt (fp:List Addr)(h:Heap):List (Addr×Obj):=fp.filterMap fun b=>(h.get? b).map fun o=>(b,o)
theorem mem_pinsAt {fp:List Addr}{h:Heap}{b:Addr}{o:Obj}(hb:b∈fp)(e:h.get? b=some o):(b,o)∈pinsAt fp h:=List.mem_filterMap.mpr ⟨b,hb,by rw[e];rfl⟩
theorem of_pinsAt {fp:List Addr}{h:Heap}{p:Addr×Obj}(hp:p∈pinsAt fp h):p.1∈fp∧h.get? p.1=some p.2:=by
 obtain⟨b,hb,e⟩:=List.mem_filterMap.mp hp
 cases q:h.get? b with
 | none=>rw[q] at e;cases e
 | some o=>
  rw[q] at e
  have e':(b,o)=p:=Option.some.inj e
  subst e'
  exact⟨hb,q⟩
theorem Inv.pinned {pins:List (Addr×Obj)}{σ:St}{H:Hp}{s:Shared}{fp:List Addr}(I:Inv X pins σ H s)(hf:∀ b∈fp,FpOk X pins H b)(ho:∀ b∈fp,∃ o,s.heap.get? b=some o∧∀ v,o.data≠.cell v):Inv X (pins++pinsAt fp s.heap) σ H s:=
 I.pins_of fun p hp=>(List.mem_append.mp hp).elim (fun z=>I.pin p (List.mem_append_right _ z)) fun z=>by
  obtain⟨hb,e⟩:=of_pinsAt z
  obtain⟨f0,f1,f2,_⟩:=hf p.1 hb
  obtain⟨o,e',d⟩:=ho p.1 hb
  rw[e] at e';cases e'
  exact⟨e,f0,f1,f2,d⟩
theorem Inv.unpinned {pins pl:List (Addr×Obj)}{σ:St}{H:Hp}{s:Shared}(I:Inv X (pins++pl) σ H s):Inv X pins σ H s:=I.pins_of fun p hp=>I.pin p (List.mem_append_right _ (List.mem_append_left _ hp))
theorem ps_for {iter:Expr}{body:List Stmt}{wi:TI}{g:TG}{tb:TS}{pos:Pos}(hp:PassesOwn (model X.prog X.w) X.A X.env X.xe)(hc:X.calm=true)(hi:PI X tg iter wi)(hg:PG X tg g)(hb:PSs X body tb)
  (hs:∀ x,foldedSetIterable iter X.env x=pure x:=by intro _;rfl):PS X (.For tg iter body [] pos) (tFor wi g tb):=by
 intro pins s σ H D I h
 refine wpAny_For (thn (hi pins s σ H _ I h) fun v s1 h1=>thn h1 fun itv s2 h2=>?_) hs
 obtain⟨it,fp,tn,J,H2,e,I2,T,st2,f2,W,⟨m0,w0⟩,turn⟩:=h2
 subst e
 -- what stays true of the iterator's objects through the loop
 have stat:∀ {H':Hp},(∀ b∈fp,H' b=none)->∀ b∈fp,FpOk X pins H' b:=fun hn b hb=>⟨hn b hb,(f2 b hb).2⟩
 refine codeAny_forLoop_any (fun n s'=>∃ i σ' H',Inv X pins σ' H' s'∧tn i s'.heap∧(∀ b∈fp,H' b=none)∧W i n σ' H') ?_ m0 ⟨0,σ,H2,I2,st2,fun b hb=>(f2 b hb).1,w0⟩
 rintro n s3 ⟨i,σ3,H3,I3,st3,fr3,w3⟩
 rcases turn i n σ3 H3 w3 with ⟨stop,qn⟩ | ⟨go,N,hN,step⟩
 ·refine wpAny_passesOwn hp (thn (T.done X rfl rfl rfl hc i pins s3 σ3 H3 X.xe I3 (stat fr3) st3 stop) fun r s4 zpat=>?_)
  obtain⟨hr,I4⟩:=zpat
  subst hr
  exact wpAny_execs_nil ⟨σ3,H3,I4,qn⟩
 ·refine wpAny_passesOwn hp (thn (T.item X rfl rfl rfl hc i pins s3 σ3 H3 X.xe I3 (stat fr3) st3 go) fun r s4 zpat=>?_)
  obtain⟨u,hr,h4⟩:=zpat
  subst hr
  refine wpAny_passesOwn hp (thn h4 fun _ s5 zpat=>?_)
  obtain⟨x,H5,I5,r5,y5,st5,fr5⟩:=zpat
  have I5':=I5.pinned (stat fr5) (T.obj _ _ st5)
  refine wpAny_passesOwn hp (thn (hg _ s5 σ3 H5 x u _ I5' r5 (step x H5 y5)) fun _ s6 zpat=>?_)
  obtain⟨σ6,H6,I6,q6⟩:=zpat
  refine wpAny_passesOwn hp (thn (hb _ s6 σ6 H6 _ I6 q6) fun f s7 q7=>?_)
  have again:∀ {σ7:St} {H7:Hp},Inv X (pins++pinsAt fp s5.heap) σ7 H7 s7->N σ7 H7->∃ m,m<n∧∃ i σ' H',Inv X pins σ' H' s7∧tn i s7.heap∧(∀ b∈fp,H' b=none)∧W i m σ' H':=fun {σ7 H7} I7 n7=>by
   obtain⟨m',hm,w7⟩:=hN σ7 H7 n7
   refine ⟨m',hm,i+1,σ7,H7,I7.unpinned,(T.keep _ _ _ st5 fun b hb o e=>(I7.pin (b,o) (List.mem_append_right _ (List.mem_append_right _ (mem_pinsAt hb e)))).1),(fun b hb=>?_),w7⟩
   obtain⟨o,e,d⟩:=T.obj _ _ st5 b hb
   exact (I7.pin (b,o) (List.mem_append_right _ (List.mem_append_right _ (mem_pinsAt hb e)))).2.1
  cases f with
  | next=>obtain⟨σ7,H7,I7,n7⟩:=q7;exact again I7 n7
  | cont=>obtain⟨σ7,H7,I7,n7⟩:=q7;exact again I7 n7
  | brk=>obtain⟨σ7,H7,I7,q7⟩:=q7;exact⟨σ7,H7,I7.unpinned,q7⟩
  | ret v=>obtain⟨x7,σ7,H7,I7,r7,q7⟩:=q7;exact⟨x7,σ7,H7,I7.unpinned,r7,q7⟩
end
end L2
namespace L2
abbrev R2:=V->V->Hp->VK->Prop
def OpR (X:Cx)(f:Value->Value->Sem Value)(r:R2):Prop:=
 ∀ (pins:List (Addr×Obj)) (s:Shared) (σ:St) (H:Hp) (x y:V) (v u:Value) (Q:VK),Inv X pins σ H s->RelV x v->RelV y u->r x y H Q ->
  wpAny (model X.prog X.w) X.A (f v u) (EP X pins σ Q) X.xe s
def UnR (X:Cx)(f:Value->Sem Value)(r:V->Hp->VK->Prop):Prop:=
 ∀ (pins:List (Addr×Obj)) (s:Shared) (σ:St) (H:Hp) (x:V) (v:Value) (Q:VK),Inv X pins σ H s->RelV x v->r x H Q ->
  wpAny (model X.prog X.w) X.A (f v) (EP X pins σ Q) X.xe s
def CallR (X:Cx)(f:Value)(r:List V->Hp->VK->Prop):Prop:=
 ∀ (pins:List (Addr×Obj)) (s:Shared) (σ:St) (H:Hp) (xs:List V) (us:List Value) (Q:VK),Inv X pins σ H s->Vals xs us->r xs H Q ->
  wpAny (model X.prog X.w) X.A (call f us) (EP X pins σ Q) X.xe s
def tOp (r:R2)(ta tb:TE):TE:=fun σ H Q=>ta σ H fun x H1=>tb σ H1 fun y H2=>r x y H2 Q
def tUn (r:V->Hp->VK->Prop)(ta:TE):TE:=fun σ H Q=>ta σ H fun x H1=>r x H1 Q
def rI (C:Int->Int->Prop)(g:Int->Int->V):R2:=fun x y H Q=>∃ i j,x=.int i∧y=.int j∧C i j∧Q (g i j) H
def rI0 (g:Int->Int->V):R2:=fun x y H Q=>∃ i j,x=.int i∧y=.int j∧Q (g i j) H
def rU (g:Int->V):V->Hp->VK->Prop:=fun x H Q=>∃ i,x=.int i∧Q (g i) H
section
variable {X:Cx}{a b c:Expr}{ta tb tc:TE}{pos:Pos}
theorem binT (ha:PE X a ta)(hb:PE X b tb){pins:List (Addr×Obj)}{s:Shared}{σ:St}{H:Hp}{R:V->V->Hp->Prop}(I:Inv X pins σ H s)
  (h:ta σ H fun x H1=>tb σ H1 fun y H2=>R x y H2) {Q:Value->Shared->Prop} {f:Value->Value->Sem Value}
  (hf:∀ v u s2 x y H2,Inv X pins σ H2 s2->RelV x v->RelV y u->R x y H2->wpAny (model X.prog X.w) X.A (f v u) Q X.xe s2) :
  wpAny (model X.prog X.w) X.A (eval a X.env) (fun v s₁=>wpAny (model X.prog X.w) X.A (eval b X.env) (fun u s₂=>wpAny (model X.prog X.w) X.A (f v u) Q X.xe s₂) X.xe s₁) X.xe s:=by
 refine thn (ha pins s σ H _ I h) fun v s1 zpat=>?_
 obtain⟨x,H1,I1,r1,q1⟩:=zpat
 refine thn (hb pins s1 σ H1 _ I1 q1) fun u s2 zpat=>?_
 obtain⟨y,H2,I2,r2,q2⟩:=zpat
 exact hf v u s2 x y H2 I2 r1 r2 q2
theorem pe_op {op:Operator}{r:R2}(ho:OpR X (binaryOp op) r)(ha:PE X a ta)(hb:PE X b tb):PE X (.BinOp a op b pos) (tOp r ta tb):=by
 intro pins s σ H Q I h
 exact wpAny_BinOp (binT ha hb I h fun v u s2 x y H2 I2 rx ry q=>ho pins s2 σ H2 x y v u Q I2 rx ry q)
theorem pe_un {op:UnaryOp}{r:V->Hp->VK->Prop}(ho:UnR X (unaryOp op) r)(ha:PE X a ta):PE X (.UnaryOp op a pos) (tUn r ta):=by
 intro pins s σ H Q I h
 exact UnaryOp_ (thn (ha pins s σ H _ I h) fun v s1 ⟨x,H1,I1,r1,q1⟩=>ho pins s1 σ H1 x v Q I1 r1 q1)
theorem opI {f:Value->Value->Sem Value}{C:Int->Int->Prop}{g:Int->Int->Int}
  (rule:∀ (i j:Int) (t u:Tok) (s:Shared) (Q:Value->Shared->Prop) (E:Value->Shared->Prop),C i j->Q (.int (g i j) s.toks) { s with toks:=s.toks+1 }->wpAny (model X.prog X.w) X.A (f (.int i t) (.int j u)) Q E s) :
  OpR X f (rI C fun i j=>.int (g i j)):=by
 intro pins s σ H x y v u Q I rx ry h
 revert h
 refine fun zqq=>?_;obtain⟨i,j,zq2,zq3,hc,q⟩:=zqq
 subst zq2
 subst zq3
 revert rx
 refine fun zqq=>?_;obtain⟨t,zq1⟩:=zqq
 subst zq1
 revert ry
 refine fun zqq=>?_;obtain⟨t',zq1⟩:=zqq
 subst zq1
 exact rule i j t t' s _ _ hc ⟨.int (g i j),H,I.tok _,⟨_,rfl⟩,q⟩
theorem opI0 {f:Value->Value->Sem Value}{g:Int->Int->Int}
  (rule:∀ (i j:Int) (t u:Tok) (s:Shared) (Q:Value->Shared->Prop) (E:Value->Shared->Prop),Q (.int (g i j) s.toks) { s with toks:=s.toks+1 }->wpAny (model X.prog X.w) X.A (f (.int i t) (.int j u)) Q E s) :
  OpR X f (rI0 fun i j=>.int (g i j)):=by
 intro pins s σ H x y v u Q I rx ry h
 revert h
 refine fun zqq=>?_;obtain⟨i,j,zq2,zq3,q⟩:=zqq
 subst zq2
 subst zq3
 revert rx
 refine fun zqq=>?_;obtain⟨t,zq1⟩:=zqq
 subst zq1
 revert ry
 refine fun zqq=>?_;obtain⟨t',zq1⟩:=zqq
 subst zq1
 exact rule i j t t' s _ _ ⟨.int (g i j),H,I.tok _,⟨_,rfl⟩,q⟩
theorem opB0 {f:Value->Value->Sem Value}{g:Int->Int->Bool}
  (rule:∀ (i j:Int) (t u:Tok) (s:Shared) (Q:Value->Shared->Prop) (E:Value->Shared->Prop),Q (.bool (g i j)) s->wpAny (model X.prog X.w) X.A (f (.int i t) (.int j u)) Q E s) :
  OpR X f (rI0 fun i j=>.bl (g i j)):=by
 intro pins s σ H x y v u Q I rx ry h
 revert h
 refine fun zqq=>?_;obtain⟨i,j,zq2,zq3,q⟩:=zqq
 subst zq2
 subst zq3
 revert rx
 refine fun zqq=>?_;obtain⟨t,zq1⟩:=zqq
 subst zq1
 revert ry
 refine fun zqq=>?_;obtain⟨t',zq1⟩:=zqq
 subst zq1
 exact rule i j t t' s _ _ ⟨.bl (g i j),H,I,rfl,q⟩
def CPow (i j:Int):Prop:=0≤j∧j≤1000000∧i.natAbs<2 ^ 64
def CMul (i j:Int):Prop:=(-(2 ^ 64)<i∧i<2 ^ 64)∨(-(2 ^ 64)<j∧j<2 ^ 64)
theorem CMul.ok {i j:Int}(h:CMul i j):IntMulOk i j:=by
 rcases h with ⟨h1,h2⟩ | ⟨h1,h2⟩
 ·exact .of_left (intBits_le_64 h1 h2)
 ·exact .of_right (intBits_le_64 h1 h2)
theorem op_add:OpR X (binaryOp .Add) (rI0 fun i j=>.int (i+j)):=opI0 fun _ _ _ _ _ _ _ q=>add_int q
theorem op_sub:OpR X (binaryOp .Sub) (rI0 fun i j=>.int (i - j)):=opI0 fun _ _ _ _ _ _ _ q=>sub_int q
theorem op_modN:OpR X (binaryOp .Mod) (rI (fun _ j=>j≠0) fun i j=>.int (i.fmod j)):=opI fun _ _ _ _ _ _ _ hc q=>mod_int' hc q
theorem op_pow:OpR X (binaryOp .Pow) (rI CPow fun i j=>.int (i ^ j.toNat)):=opI fun _ _ _ _ _ _ _ hc q=>pow_int_small hc.1 hc.2.1 hc.2.2 q
theorem unI {f:Value->Sem Value}{g:Int->Int}
  (rule:∀ (i:Int) (t:Tok) (s:Shared) (Q:Value->Shared->Prop) (E:Value->Shared->Prop),Q (.int (g i) s.toks) { s with toks:=s.toks+1 }->wpAny (model X.prog X.w) X.A (f (.int i t)) Q E s) :
  UnR X f (rU fun i=>.int (g i)):=by
 intro pins s σ H x v Q I rx h
 revert h
 refine fun zqq=>?_;obtain⟨i,zq1,q⟩:=zqq
 subst zq1
 revert rx
 refine fun zqq=>?_;obtain⟨t,zq1⟩:=zqq
 subst zq1
 exact rule i t s _ _ ⟨.int (g i),H,I.tok _,⟨_,rfl⟩,q⟩
theorem un_neg:UnR X (unaryOp .USub) (rU fun i=>.int (-i)):=unI fun _ _ _ _ _ q=>neg_int q
end
section
variable {X:Cx}{a b c:Expr}{ta tb tc:TE}{pos:Pos}
theorem fin_bl {pins:List (Addr×Obj)}{σ:St}{H:Hp}{s:Shared}{Q:VK}{k k':Bool}(I:Inv X pins σ H s)(q:Q (.bl k) H)(e:k=k'):EP X pins σ Q (.bool k') s:=by
 subst e
 exact⟨.bl k,H,I,rfl,q⟩
theorem op_lt:OpR X (compareOp .Lt) (rI0 fun i j=>.bl (decide (i<j))):=opB0 fun _ _ _ _ _ _ _ q=>lt_int q
theorem op_le:OpR X (compareOp .LtE) (rI0 fun i j=>.bl (decide (i≤j))):=opB0 fun _ _ _ _ _ _ _ q=>le_int q
theorem op_gt:OpR X (compareOp .Gt) (rI0 fun i j=>.bl (decide (j<i))):=opB0 fun _ _ _ _ _ _ _ q=>gt_int q
theorem op_ge:OpR X (compareOp .GtE) (rI0 fun i j=>.bl (decide (j≤i))):=opB0 fun _ _ _ _ _ _ _ q=>ge_int q
theorem op_notN:OpR X (compareOp .IsNot) (fun x y H Q=>y=.non∧Q (.bl (!decide (x=.non))) H):=by
 intro pins s σ H x y v u Q I rx ry h
 revert h
 refine fun zqq=>?_;obtain⟨zq0,q⟩:=zqq
 subst zq0
 cases ry
 refine isnot_none_gen (fin_bl I q ?_)
 cases x <;> first
  | (cases rx;rfl)
  | (obtain⟨t,rfl⟩:=rx;rfl)
theorem OpR.or {f:Value->Value->Sem Value}{r r':R2}(h:OpR X f r)(h':OpR X f r'):OpR X f (fun x y H Q=>r x y H Q∨r' x y H Q):=by
 intro pins s σ H x y v u Q I rx ry q
 rcases q with q | q
 ·exact h pins s σ H x y v u Q I rx ry q
 ·exact h' pins s σ H x y v u Q I rx ry q
theorem nomark (b:Expr){op:CmpOp}(h:op≠.In:=by decide)(h2:op≠.NotIn:=by decide):behindInMarks op b=false:=by
 have e1:(op==CmpOp.In)=false:=by cases op <;> first | rfl | exact absurd rfl h
 have e2:(op==CmpOp.NotIn)=false:=by cases op <;> first | rfl | exact absurd rfl h2
 cases b <;> simp[behindInMarks,e1,e2]
theorem pe_cmpR {op:CmpOp}{r:R2}(ho:OpR X (compareOp op) r)(ha:PE X a ta)(hb:PE X b tb)(hm:behindInMarks op b=false):PE X (.Compare a [op] [b] pos) (tOp r ta tb):=by
 intro pins s σ H Q I h
 exact wpAny_Compare1 (binT ha hb I h fun v u s2 x y H2 I2 rx ry q=>ho pins s2 σ H2 x y v u Q I2 rx ry q) hm
def tTest (t:TE):TT:=fun σ H Q=>t σ H fun x H'=>∃ k,x=.bl k∧Q k H'
theorem pt_cmpR {op:CmpOp}{r:R2}(ho:OpR X (compareOp op) r)(ha:PE X a ta)(hb:PE X b tb)(hm:behindInMarks op b=false):PT X (.Compare a [op] [b] pos) (tTest (tOp r ta tb)):=by
 intro pins s σ H Q I h
 refine wpAny_isTrue_Compare1 (thn (ha pins s σ H _ I h) fun v s1 ⟨x,H1,I1,r1,q1⟩=>thn (hb pins s1 σ H1 _ I1 q1) fun u s2 ⟨y,H2,I2,r2,q2⟩=>
  thn (ho pins s2 σ H2 x y v u _ I2 r1 r2 q2) fun c s3 ⟨z,H3,I3,r3,k,e,q3⟩=>?_) hm
 subst e
 cases r3
 exact wpAny_truthy_bool ⟨H3,I3,q3⟩
theorem line63:(sizeLine:Nat)<2 ^ 63:=by rw[sizeLine_eq];decide
theorem vals1 {x:V}{us:List Value}(r:Vals [x] us):∃ u,us=[u]∧RelV x u:=by
 cases r with
 | cons r1 r2=>cases r2;exact⟨_,rfl,r1⟩
theorem vals2 {x y:V}{us:List Value}(r:Vals [x,y] us):∃ u w',us=[u,w']∧RelV x u∧RelV y w':=by
 cases r with
 | cons r1 r2=>
  cases r2 with
  | cons r3 r4=>cases r4;exact⟨_,_,rfl,r1,r3⟩
theorem call_abs:CallR X (.builtin "abs") (fun xs H Q=>∃ i,xs=[.int i]∧Q (.int (if i<0 then -i else i)) H):=by
 intro pins s σ H xs us Q I r h
 revert h
 refine fun zqq=>?_;obtain⟨i,zq1,q⟩:=zqq
 subst zq1
 obtain⟨u,zq1,t,zq3⟩:=vals1 r
 subst zq1
 subst zq3
 exact call_abs_int fun u tk=>⟨.int (if i<0 then -i else i),H,I.tok _,⟨_,rfl⟩,q⟩
theorem call_max2 (hc:X.calm=true):CallR X (.builtin "max") (fun xs H Q=>∃ i j,xs=[.int i,.int j]∧Q (.int (if j>i then j else i)) H):=by
 intro pins s σ H xs us Q I r h
 revert h
 refine fun zqq=>?_;obtain⟨i,j,zq2,q⟩:=zqq
 subst zq2
 obtain⟨u,w',rfl,⟨t,rfl⟩,⟨t',rfl⟩⟩:=vals2 r
 refine max_two_ints (I.ok.hd hc) fun h' tk k=>⟨_,H,I.kept k,?_,q⟩
 by_cases hj:j>i
 ·rw[if_pos hj,if_pos hj];exact⟨_,rfl⟩
 ·rw[if_neg hj,if_neg hj];exact⟨_,rfl⟩
theorem call_min2 (hc:X.calm=true):CallR X (.builtin "min") (fun xs H Q=>∃ i j,xs=[.int i,.int j]∧Q (.int (if j<i then j else i)) H):=by
 intro pins s σ H xs us Q I r h
 revert h
 refine fun zqq=>?_;obtain⟨i,j,zq2,q⟩:=zqq
 subst zq2
 obtain⟨u,w',rfl,⟨t,rfl⟩,⟨t',rfl⟩⟩:=vals2 r
 refine min_two_ints (I.ok.hd hc) fun h' tk k=>⟨_,H,I.kept k,?_,q⟩
 by_cases hj:j<i
 ·rw[if_pos hj,if_pos hj];exact⟨_,rfl⟩
 ·rw[if_neg hj,if_neg hj];exact⟨_,rfl⟩
theorem call_int1:CallR X (.type "int") (fun xs H Q=>(∃ i,xs=[.int i]∧Q (.int i) H)∨∃ k,xs=[.bl k]∧Q (.int (if k then 1 else 0)) H):=by
 intro pins s σ H xs us Q I r h
 rcases h with ⟨i,rfl,q⟩ | ⟨k,rfl,q⟩
 ·obtain⟨u,zq1,t,zq3⟩:=vals1 r
  subst zq1
  subst zq3
  exact call_int_int ⟨.int i,H,I,⟨_,rfl⟩,q⟩
 ·obtain⟨u,zq1,r1⟩:=vals1 r
  subst zq1
  cases r1
  exact call_int_bool ⟨.int (if k then 1 else 0),H,I.tok _,⟨_,rfl⟩,q⟩
end
end L2
namespace L2
structure ObjM (h:Heap)(x dx C:Addr)(mA:Str->Option Value):Prop where
 obj:h.get? x=some (PySem.W.instObj C dx)
 ns:h.Ns1 dx mA
 ne:dx≠x
theorem lookIn_ns {h:Heap}{dx:Addr}{mA:Str->Option Value}(n:h.Ns1 dx mA):∃ od,h.get? dx=some od∧∀ name,PySem.W.lookIn name od=some (mA name):=by
 obtain⟨o,es,ep,ho,hd,hk,_,hm⟩:=id (n)
 refine⟨o,ho,fun name=>?_⟩
 have e:=hm name
 unfold nsFind findBy at e
 rw[← Array.find?_toList] at e
 unfold PySem.W.lookIn
 rw[hd]
 dsimp only
 split
 ·rename_i y q
  rw[q] at e
  exact congrArg some e
 ·rename_i q
  rw[q] at e
  have a:es.toList.any (·.refKey)=false:=by
   rw[List.any_eq_false]
   intro y hy
   obtain⟨z,t,hkey⟩:=hk y (Array.mem_toList_iff.mp hy)
   simp[DictEntry.refKey,hkey]
  have a':¬ es.toList.any (·.refKey)=true:=by rw[a];exact Bool.false_ne_true
  rw[if_neg a']
  exact congrArg some e
theorem ObjM.look {h:Heap}{x dx C:Addr}{mA:Str->Option Value}(I:ObjM h x dx C mA):∃ od,PySem.W.InstAt h x (PySem.W.instObj C dx) C (some od)∧∀ name,PySem.W.lookIn name od=some (mA name):=
 let ⟨od,ho,hl⟩:=lookIn_ns I.ns
 ⟨od,⟨I.obj,rfl,rfl,ho⟩,hl⟩
section
variable {prog:Program}{w:World}{A:Around}{E:Value->Shared->Prop}{s:Shared}{K:PySem.W.Frag}{x dx C f:Addr}{mA:Str->Option Value}{name:Str}{v:Value}
theorem get_map {expr:Bool}{Q:Value->Shared->Prop}(X:K.In s.heap)(I:ObjM s.heap x dx C mA)(hg:PySem.W.plainGet K C name=true)(hh:PySem.W.hasDictIn K C=true)
  (ha:PySem.W.findIn K (.ref C) name=some none) (hv:mA name=some v) (hv':PySem.W.handedIn v=true) (h:Q v { s with toks:=s.toks+1 }) :
  wpAny (model prog w) A (getAttr (.ref x) name expr) Q E s:=by
 obtain⟨od,J,hl⟩:=I.look
 exact PySem.W.get_value X J (PySem.W.plainGet_of hg).1 (PySem.W.findObj_own hh ha rfl (by rw[hl,hv])) hv' h
theorem get_meth {pl:Sem Bool}{Q:Value×List Value->Shared->Prop}(X:K.In s.heap)(I:ObjM s.heap x dx C mA)(hg:PySem.W.plainGet K C name=true)
  (hf:PySem.W.findIn K (.ref C) name=some (some (.ref f))) (ht:PySem.W.isFn K (.ref f)=true) (hv:mA name=none) (h:Q (.ref f,[.ref x]) s) :
  wpAny (model prog w) A (getMethod (.ref x) name pl) Q E s:=by
 obtain⟨od,J,hl⟩:=I.look
 exact PySem.W.method_fn X J (PySem.W.plainGet_of hg).1 (PySem.W.plainGet_of hg).2 hf (beq_iff_eq.mp ht) (by show (PySem.W.lookIn name od).map (·.isSome)=some false;rw[hl,hv];rfl) h
theorem set_map {ns:List Str}{Q:Unit->Shared->Prop}(X:K.In s.heap)(I:ObjM s.heap x dx C mA)
  (hs:PySem.W.findIn K (.ref C) "__setattr__"=some (some (.builtin "object.__setattr__"))) (hp:PySem.W.plainOver K C=true) (ht:PySem.W.takerIn K C name=some none) (hh:PySem.W.hasDictIn K C=true)
  (hw:PySem.Within mA ns) (hsz:ns.length≤sizeLine)
  (h:∀ h',ObjM h' x dx C (fun y=>if y=name then some v else mA y)->Heap.SameBut dx s.heap h'->Q () { s with heap:=h',toks:=s.toks+2 }) :
  wpAny (model prog w) A (setAttr (.ref x) name v) Q E s:=by
 obtain⟨od,J,hl⟩:=I.look
 refine PySem.W.set_plain X J hs (PySem.W.osa_open (s:={ s with toks:=s.toks+1 }) (r:=none) X J hp ht fun b=>?_)
 obtain⟨cd,hc,hd'⟩:=PySem.W.any_some hh
 have hx:s.heap.get? x=some ⟨.ref C,some dx,.plain,#[]⟩:=I.obj
 refine wpAny_bind (wpAny_pure (wpAny_bind (wpAny_bind (wpAny_loadPart hx (wpAny_bind (PySem.W.Looks.here (s:={ s with toks:=s.toks+1 }) (PySem.W.looks_clsIn X hc) ?_))))))
 rw[hd']
 refine wpAny_pure (a:=some dx) (wpAny_bind (wpAny_pure (wpAny_bind ?_)))
 refine wpAny_nsSet1 (s:={ s with toks:=s.toks+1 }) I.ns fun h' hn2 hs2=>?_
 obtain⟨oD,esD,epD,hoD,hdD,hcD⟩:=hn2.count (PySem.Within.cons name v hw)
 refine wpAny_bind (wpAny_lookBehind hoD (by rw[hdD];exact pastItsLine_dict (Nat.le_trans hcD (by rw[List.length_cons];omega))) ?_)
 exact wpAny_pure (h _ ⟨(hs2.2 _ (Ne.symm I.ne)).trans I.obj,hn2,I.ne⟩ hs2)
theorem make_map {R:Result->Shared->Prop}{vs:List Value}{kw:List (Str×Value)}(X:K.In s.heap)(hm:PySem.W.makesIn K C=true)
  (hi:PySem.W.findIn K (.ref C) "__init__"=some (some (.ref f))) (hf:PySem.W.typeIn K (.ref f)=some (.type "function"))
  (h:codeAny (model prog w) (A.under (.builtin "type.__call__" ⟨.ref C::vs,kw⟩)) (.call (.ref f) ⟨.ref (s.heap.objs.size+1)::vs,kw⟩) (PySem.W.InitBack (s.heap.objs.size+1) R)
   { s with heap:=(s.heap.push PySem.W.emptyDict).push (PySem.W.instObj C s.heap.objs.size) }) :
  codeAny (model prog w) A (.call (.ref C) ⟨vs,kw⟩) R s:=by
 obtain⟨hh,g,d,t,os⟩:=s
 exact PySem.W.make_core (PySem.W.makes_of X hm) (PySem.W.looks_findIn X hi) (fun self=>PySem.W.bind_fn X self hf) (.inl rfl) h
end
def putF (f:Str)(v:V):List (Str×V)->List (Str×V)
 | []=>[(f,v)]
 | (g,x)::r=>if g=f then (g,v)::r else (g,x)::putF f v r
theorem lookup_putF (f g:Str)(v:V):∀ fs:List (Str×V),(putF f v fs).lookup g=if g=f then some v else fs.lookup g
 | []=>by
  show List.lookup g [(f,v)]=_
  by_cases h:g=f
  ·have hb:(g==f)=true:=beq_iff_eq.mpr h
   simp only[List.lookup,hb,if_pos h]
  ·have hb:(g==f)=false:=beq_eq_false_iff_ne.mpr h
   simp only[List.lookup,hb,if_neg h]
 | (k,x)::r=>by
  have ih:=lookup_putF f g v r
  rw[show putF f v ((k,x)::r)=(if k=f then (k,v)::r else (k,x)::putF f v r) from rfl]
  by_cases hk:k=f
  ·rw[if_pos hk]
   by_cases h:g=k
   ·have hb:(g==k)=true:=beq_iff_eq.mpr h
    simp only[List.lookup,hb,if_pos (h.trans hk)]
   ·have hb:(g==k)=false:=beq_eq_false_iff_ne.mpr h
    simp only[List.lookup,hb,if_neg (fun e:g=f=>h (e.trans hk.symm))]
  ·rw[if_neg hk]
   by_cases h:g=k
   ·have hb:(g==k)=true:=beq_iff_eq.mpr h
    simp only[List.lookup,hb,if_neg (fun e:g=f=>hk (h.symm.trans e))]
   ·have hb:(g==k)=false:=beq_eq_false_iff_ne.mpr h
    simp only[List.lookup,hb]
    exact ih
theorem keys_putF (f:Str)(v:V):∀ fs:List (Str×V),f∈(putF f v fs).map (·.1)∧∀ g,g∈fs.map (·.1)->g∈(putF f v fs).map (·.1)
 | []=>⟨by simp[putF],fun g h=>by simp at h⟩
 | (k,x)::r=>by
  obtain⟨i1,i2⟩:=keys_putF f v r
  rw[show putF f v ((k,x)::r)=(if k=f then (k,v)::r else (k,x)::putF f v r) from rfl]
  by_cases hk:k=f
  ·rw[if_pos hk]
   subst hk
   exact⟨by simp,fun g h=>by simpa using h⟩
  ·rw[if_neg hk]
   refine⟨?_,fun g h=>?_⟩
   ·rw[List.map_cons]
    exact List.mem_cons_of_mem _ i1
   ·rw[List.map_cons] at h ⊢
    rcases List.mem_cons.mp h with e | e
    ·exact List.mem_cons.mpr (.inl e)
    ·exact List.mem_cons_of_mem _ (i2 g e)
theorem length_putF (f:Str)(v:V):∀ fs:List (Str×V),(putF f v fs).length≤fs.length+1
 | []=>by simp[putF]
 | (k,x)::r=>by
  have ih:=length_putF f v r
  rw[show putF f v ((k,x)::r)=(if k=f then (k,v)::r else (k,x)::putF f v r) from rfl]
  by_cases hk:k=f
  ·rw[if_pos hk,List.length_cons,List.length_cons];omega
  ·rw[if_neg hk,List.length_cons,List.length_cons];omega
theorem RelO.some_of {v:V}{o:Option Value}(r:RelO (some v) o):∃ u,o=some u∧RelV v u:=by
 cases o with
 | none=>exact (show False from r).elim
 | some u=>exact⟨u,rfl,r⟩
theorem RelO.none_of {o:Option Value}(r:RelO none o):o=none:=by
 cases o with
 | none=>rfl
 | some u=>exact (show False from r).elim
theorem handed_of {v:V}{u:Value}(r:RelV v u):PySem.W.handedIn u=true:=by
 cases v with
 | non=>cases (show u=Value.none from r);rfl
 | bl b=>cases (show u=Value.bool b from r);rfl
 | int i=>obtain⟨t,e⟩:=(show ∃ t,u=Value.int i t from r);cases e;rfl
 | str x=>obtain⟨t,e⟩:=(show ∃ t,u=Value.str x t from r);cases e;rfl
 | byt b=>obtain⟨t,e⟩:=(show ∃ t,u=Value.bytes b t from r);cases e;rfl
 | flt b=>obtain⟨t,e⟩:=(show ∃ t,u=Value.float b t from r);cases e;rfl
 | ref a=>cases (show u=Value.ref a from r);rfl
 | ty n=>cases (show u=Value.type n from r);rfl
section
variable {P:Program}{w:World}{H H':Hp}{h h':Heap}{a C dx:Addr}{fs fs':List (Str×V)}
theorem ins_get (hok:HOk P w H h)(e:H a=some (.ins C dx fs)):∃ mA,ObjM h a dx C mA∧(∀ f,RelO (fs.lookup f) (mA f))∧PySem.Within mA (fs.map (·.1))∧fs.length≤1000∧H dx=some (.own a):=by
 obtain⟨d,z,ne,ob,mA,n,r,q⟩:=(show ObjOk P w H h a (.ins C dx fs) from hok a _ e)
 exact⟨mA,⟨ob,n,ne⟩,r,q,z,d⟩
end
structure Cls (K:PySem.W.Frag)(C:Addr):Prop where
 pg:PySem.W.plainGet K C Str.empty=true
 hd:PySem.W.hasDictIn K C=true
 po:PySem.W.plainOver K C=true
 sa:PySem.W.findIn K (.ref C) "__setattr__"=some (some (.builtin "object.__setattr__"))
theorem Cls.get {K:PySem.W.Frag}{C:Addr}(c:Cls K C)(f:Str):PySem.W.plainGet K C f=true:=c.pg
def NoAttr (K:PySem.W.Frag)(C:Addr)(f:Str):Prop:=PySem.W.findIn K (.ref C) f=some none
theorem NoAttr.taker {K:PySem.W.Frag}{C:Addr}{f:Str}(n:NoAttr K C f):PySem.W.takerIn K C f=some none:=by
 unfold PySem.W.takerIn
 rw[show PySem.W.findIn K (.ref C) f=some none from n]
 rfl
structure Con (K:PySem.W.Frag)(C:Addr)(f:Str)(v:V)(u:Value):Prop where
 at_:PySem.W.findIn K (.ref C) f=some (some u)
 rel:RelV v u
 get:PySem.W.specialIn K u "__get__"=some none
 cp:PySem.W.copiedNames.contains f=false
structure Meth (K:PySem.W.Frag)(C:Addr)(m:Str)(f:Addr):Prop where
 at_:PySem.W.findIn K (.ref C) m=some (some (.ref f))
 fn:PySem.W.isFn K (.ref f)=true
 kp:PySem.W.keepIn K (.ref f)=true
section
variable {X:Cx}{pins:List (Addr×Obj)}{σ:St}{H:Hp}{s:Shared}{a C dx:Addr}{fs:List (Str×V)}{f:Str}{v:V}{A:Around}{E:Value->Shared->Prop}
theorem getattr_ok {b:Bool}{Q:Value->Shared->Prop}(I:Inv X pins σ H s)(e:H a=some (.ins C dx fs))(c:Cls X.K C)(n:NoAttr X.K C f)(l:fs.lookup f=some v)
  (h:∀ u s',Inv X pins σ H s'->RelV v u->Q u s'):wpAny (model X.prog X.w) A (getAttr (.ref a) f b) Q E s:=by
 obtain⟨mA,O,r,_,_,_⟩:=ins_get I.hok e
 obtain⟨u,hu,ru⟩:=RelO.some_of (v:=v) (o:=mA f) (by rw[← l];exact r f)
 exact get_map I.kIn O (c.get f) c.hd n hu (handed_of ru) (h u _ (I.tok _) ru)
theorem getmeth_ok {m:Str}{g:Addr}{pl:Sem Bool}{Q:Value×List Value->Shared->Prop}(I:Inv X pins σ H s)(e:H a=some (.ins C dx fs))(c:Cls X.K C)(k:Meth X.K C m g)(l:fs.lookup m=none)
  (h:Q (.ref g,[.ref a]) s):wpAny (model X.prog X.w) A (getMethod (.ref a) m pl) Q E s:=by
 obtain⟨mA,O,r,_,_,_⟩:=ins_get I.hok e
 have hn:mA m=none:=RelO.none_of (by rw[← l];exact r m)
 exact get_meth I.kIn O (c.get m) k.at_ k.fn hn h
theorem setattr_ok {y:V}{u:Value}{Q:Unit->Shared->Prop}(I:Inv X pins σ H s)(e:H a=some (.ins C dx fs))(c:Cls X.K C)(n:NoAttr X.K C f)(hl:fs.length<1000)(ry:RelV y u)
  (h:∀ s',Inv X pins σ (upd H a (.ins C dx (putF f y fs))) s'->Q () s'):wpAny (model X.prog X.w) A (setAttr (.ref a) f u) Q E s:=by
 obtain⟨mA,O,r,wi,_,ho⟩:=ins_get I.hok e
 have hz:(fs.map (·.1)).length≤sizeLine:=by rw[List.length_map,sizeLine_eq];omega
 refine set_map I.kIn O c.sa c.po n.taker c.hd wi hz fun h' O' sb=>h _ ?_
 have hd:∃ o,h'.get? dx=some o:=let ⟨o,_,_,e',_⟩:=O'.ns;⟨o,e'⟩
 refine I.write (x:=a) (e:=dx) (by rw[e];exact True.intro) (.inr ho) (fun b q hb z=>(sb.2 b hb).trans z) hd ?_
 refine⟨by rw[upd_ne O.ne];exact ho,?_,O.ne,O'.obj,_,O'.ns,fun g=>?_,fun g hg=>?_⟩
 ·have:=length_putF f y fs;omega
 ·show RelO ((putF f y fs).lookup g) (if g=f then some u else mA g)
  rw[lookup_putF]
  by_cases q:g=f
  ·rw[if_pos q,if_pos q];exact ry
  ·rw[if_neg q,if_neg q];exact r g
 ·by_cases q:g=f
  ·rw[q];exact (keys_putF f y fs).1
  ·refine (keys_putF f y fs).2 g (wi g fun z=>hg ?_)
   show (if g=f then some u else mA g)=none
   rw[if_neg q];exact z
theorem Inv.made (I:Inv X pins σ H s):Inv X pins σ (upd (upd H s.heap.objs.size (.own (s.heap.objs.size+1))) (s.heap.objs.size+1) (.ins C s.heap.objs.size []))
  { s with heap:=(s.heap.push PySem.W.emptyDict).push (PySem.W.instObj C s.heap.objs.size) }:=by
 have e1:(s.heap.push PySem.W.emptyDict).get? s.heap.objs.size=some PySem.W.emptyDict:=Heap.get?_push_size s.heap rfl
 have e2:((s.heap.push PySem.W.emptyDict).push (PySem.W.instObj C s.heap.objs.size)).get? (s.heap.objs.size+1)=some (PySem.W.instObj C s.heap.objs.size):=by
  have:=Heap.get?_push_size (s.heap.push PySem.W.emptyDict) (o:=PySem.W.instObj C s.heap.objs.size) rfl
  rwa [Heap.size_push] at this
 have e3:(s.heap.push PySem.W.emptyDict).Ns s.heap.objs.size (fun _=>none):=⟨PySem.W.emptyDict,#[],_,e1,rfl,(fun e he=>absurd he (by simp)),fun _=>rfl⟩
 have I1:=I.laid (a:=s.heap.objs.size) (o:=.own (s.heap.objs.size+1)) (h':=s.heap.push PySem.W.emptyDict) (t':=s.toks) (fun b u q=>Heap.get?_push_of_some _ q) (Nat.le_refl _) ⟨_,e1⟩
 refine I1.laid (a:=s.heap.objs.size+1) (o:=.ins C s.heap.objs.size []) (t':=s.toks) (fun b u q=>Heap.get?_push_of_some _ q) (Nat.le_of_eq (Heap.size_push _ _)) ?_
 have ne:s.heap.objs.size≠s.heap.objs.size+1:=Nat.ne_of_lt (Nat.lt_succ_self _)
 refine⟨by rw[upd_ne ne,upd_same],Nat.zero_le _,ne,e2,fun _=>none,(Heap.Ns1.of_empty e3).at fun o q=>Heap.get?_push_of_some _ q,fun _=>True.intro,fun y hy=>absurd rfl hy⟩
theorem attr_of {prog:Program}{w:World}{env:Env}{e:Expr}{f:Str}{pos:Pos}{s:Shared}{Q:Value->Shared->Prop}(hb:attributeBase e f env (eval e env)=eval e env)
  (h:wpAny (model prog w) A (eval e env) (fun o s₁=>wpAny (model prog w) A (getAttr o f true) Q E s₁) E s):wpAny (model prog w) A (eval (.Attribute e f pos) env) Q E s:=
 Attribute_any_ h (by rw[arm_eval_Attribute,hb])
end
def tFld (K:PySem.W.Frag)(ta:TE)(f:Str):TE:=fun σ H Q=>ta σ H fun x H1=>∃ a C dx fs v,x=.ref a∧H1 a=some (.ins C dx fs)∧Cls K C∧NoAttr K C f∧fs.lookup f=some v∧Q v H1
def sFld (K:PySem.W.Frag)(ta tv:TE)(f:Str):TS:=fun D σ H=>tv σ H fun y H1=>ta σ H1 fun x H2=>∃ a C dx fs,x=.ref a∧H2 a=some (.ins C dx fs)∧Cls K C∧NoAttr K C f∧fs.length<1000 ∧
 D.nx σ (upd H2 a (.ins C dx (putF f y fs)))
section
variable {X:Cx}{o e value:Expr}{f:Str}{pos pos' tpos:Pos}{ta tv:TE}
theorem pe_fld (he:PE X e ta)(hb:attributeBase e f X.env (eval e X.env)=eval e X.env):PE X (.Attribute e f pos) (tFld X.K ta f):=by
 intro pins s σ H Q I h
 refine attr_of hb (thn (he pins s σ H _ I h) fun u s1 zpat=>?_)
 obtain⟨x,H1,I1,rx,a,C,dx,fs,v,ex,ea,c,n,l,q⟩:=zpat
 subst ex
 obtain rfl:u=Value.ref a:=rx
 exact getattr_ok I1 ea c n l fun u' s2 I2 ru=>⟨v,H1,I2,ru,q⟩
theorem ps_fld (ha:PE X o ta)(hv:PE X value tv)(hs:swapsWith value (some (.Attribute o f pos')) pos.line X.env=pure false):PS X (.Assign [.Attribute o f pos'] value pos) (sFld X.K ta tv f):=by
 intro pins s σ H D I h
 refine plainObj_wpAny_Assign_Attribute (thn (hv pins s σ H _ I h) fun u s1 ⟨y,H1,I1,ry,q⟩=>thn (ha pins s1 σ H1 _ I1 q) fun ov s2 ⟨x,H2,I2,rx,a,C,dx,fs,ex,ea,c,n,l,q2⟩=>?_) hs
 subst ex
 obtain rfl:ov=Value.ref a:=rx
 exact setattr_ok I2 ea c n l ry fun s3 I3=>⟨σ,_,I3,q2⟩
end
section
variable {X:Cx}{pins:List (Addr×Obj)}{σ:St}{H:Hp}{s:Shared}{A:Around}{E Q:Value->Shared->Prop}{c:Value}{b:Bool}
inductive TyOf (K:PySem.W.Frag)(H:Hp):V->Value->Prop where
 | non:TyOf K H .non (.type "NoneType")
 | bl (x:Bool):TyOf K H (.bl x) (.type "bool")
 | int (i:Int):TyOf K H (.int i) (.type "int")
 | str (x:Str):TyOf K H (.str x) (.type "str")
 | flt (x:UInt64):TyOf K H (.flt x) (.type "float")
 | lst {a:Addr} {xs:List V} (e:H a=some (.lst xs)):TyOf K H (.ref a) (.type "list")
 | frz {a:Addr} {o:Obj} {xs:List V} (e:H a=some (.frz o (.lst xs))):TyOf K H (.ref a) (.type "list")
 | tup {a:Addr} {xs:List V} (e:H a=some (.tup xs)):TyOf K H (.ref a) (.type "tuple")
 | dK {a:Addr} {kvs:List (Key×V)} (e:H a=some (.dK kvs)):TyOf K H (.ref a) (.type "dict")
 | dT {a:Addr} {kvs:List (List Key×V)} (e:H a=some (.dT kvs)):TyOf K H (.ref a) (.type "dict")
 | ins {a C dx:Addr} {fs:List (Str×V)} (e:H a=some (.ins C dx fs)) (cl:Cls K C) (ha:PySem.W.findIn K (.ref C) "__class__"=some (some (.builtin "object.__class__")))
  (hn:PySem.W.specialIn K (.builtin "object.__class__") "__get__"=some (some (.builtin "getset_descriptor.__get__"))) (htk:PySem.W.takesIn K (.builtin "object.__class__")=some true)
  (hm:PySem.W.mroIn K C (.type "object")=some true):TyOf K H (.ref a) (.ref C)
end
end L2
namespace L2
structure Room (k:Nat)(A:Around):Prop where
 hd:A.handled=none
 dp:A.depth+3*k+5<recursionLimit
 un:A.units+16*k+200<cLine
 gd:A.guards=some []
theorem Room.mono {j k:Nat}{A:Around}(r:Room k A)(h:j≤k):Room j A:=⟨r.hd,by have:=r.dp;omega,by have:=r.un;omega,r.gd⟩
theorem Room.deeper {k:Nat}{A:Around}(r:Room (k+1) A)(env:Env):Room k (A.deeper env):=
 ⟨r.hd,by have:=r.dp;show A.depth+1+3*k+5<_;omega,by have:=r.un;show A.units+3+16*k+200<_;omega,r.gd⟩
theorem Room.in1 {k:Nat}{A:Around}(r:Room (k+1) A):Room k A.in1:=
 ⟨r.hd,by have:=r.dp;show A.depth+3*k+5<_;omega,by have:=r.un;show A.units+1+16*k+200<_;omega,r.gd⟩
theorem make_depth {A:Around}{C:Addr}{us:List Value}{kw:List (Str×Value)}:(A.under (.builtin "type.__call__" ⟨.ref C::us,kw⟩)).depth=A.depth+1:=by
 first | rfl | simp[Around.under,Code.weight,Code.isCreation,Code.isGuard,Code.isCaller,Code.frames,Code.isFrame,guardIds]
theorem make_units {A:Around}{C:Addr}{us:List Value}{kw:List (Str×Value)}:(A.under (.builtin "type.__call__" ⟨.ref C::us,kw⟩)).units=A.units+1:=by
 first | rfl | simp[Around.under,Code.cUnits,Code.frames,Code.isFrame]
theorem make_guards {A:Around}{C:Addr}{us:List Value}{kw:List (Str×Value)}(h:A.guards=some []):(A.under (.builtin "type.__call__" ⟨.ref C::us,kw⟩)).guards=some []:=by
 simp[Around.under,Code.guards,Code.isGuard,guardIds,pushGuards,h]
theorem Room.make {k:Nat}{A:Around}(r:Room (k+1) A)(C:Addr)(us:List Value)(kw:List (Str×Value)):Room k (A.under (.builtin "type.__call__" ⟨.ref C::us,kw⟩)):=
 ⟨r.hd,by have:=r.dp;rw[make_depth];omega,by have:=r.un;rw[make_units];omega,make_guards r.gd⟩
theorem Room.depth {k:Nat}{A:Around}(r:Room k A):A.depth<recursionLimit:=by have:=r.dp;omega
theorem Room.units {k:Nat}{A:Around}(r:Room k A):A.units+64<cLine:=by have:=r.un;omega
def tNil:TA:=fun _ H Q=>Q [] H
def tCons (ta:TE)(tr:TA):TA:=fun σ H Q=>ta σ H fun x H1=>tr σ H1 fun xs H2=>Q (x::xs) H2
section
variable {X:Cx}{e:Expr}{es:List Expr}{te:TE}{t:TA}{pos:Pos}
theorem pa_nil:PA X [] tNil:=fun _ _ _ _ H Q I h=>Calls.spliced_nil ⟨[],H,I,.nil,h⟩
theorem pa_cons (ha:PE X e te)(hr:PA X es t)(hs:starEach (e::es) X.env=(false,eval e X.env)::starEach es X.env:=by rfl):PA X (e::es) (tCons te t):=by
 intro pos pins s σ H Q I h
 rw[hs]
 show wpAny _ _ (spliced ((false,eval e X.env)::backTo pos (starEach es X.env))) _ _ s
 refine Calls.spliced_cons (thn (ha pins s σ H _ I h) fun u s1 zpat=>?_)
 obtain⟨x,H1,I1,r1,q1⟩:=zpat
 exact thn (hr pos pins s1 σ H1 _ I1 q1) fun us s2 ⟨xs,H2,I2,r2,q2⟩=>⟨x::xs,H2,I2,.cons r1 r2,q2⟩
def tTup (t:TA):TE:=fun σ H Q=>t σ H fun xs H1=>xs.length≤sizeLine∧∀ p,H1 p=none->Q (.ref p) (upd H1 p (.tup xs))
def tLst (t:TA):TE:=fun σ H Q=>t σ H fun xs H1=>xs.length≤sizeLine∧∀ p,H1 p=none->Q (.ref p) (upd H1 p (.lst xs))
theorem pe_tup {x1}(h:PA X es t):PE X (.Tuple es x1 pos) (tTup t):=by
 intro pins s σ H Q I hq
 refine wpAny_Tuple_spliced (thn (h pos pins s σ H _ I hq) fun us s1 ⟨xs,H1,I1,r,z,q⟩=>⟨by rw[← r.length];exact z,?_⟩)
 have hf:H1 s1.heap.objs.size=none:=I1.hok.fresh (Nat.le_refl _)
 refine⟨.ref s1.heap.objs.size,upd H1 s1.heap.objs.size (.tup xs),I1.laid (t':=s1.toks) (fun b u e=>Heap.get?_push_of_some _ e) (Nat.le_refl _) ?_,rfl,q _ hf⟩
 exact⟨z,us,r,⟨_,Heap.get?_push_size _ rfl,rfl,_,rfl⟩⟩
theorem pe_lst (h:PA X es t):PE X (.List es pos) (tLst t):=by
 intro pins s σ H Q I hq
 refine wpAny_List_spliced (thn (h pos pins s σ H _ I hq) fun us s1 ⟨xs,H1,I1,r,z,q⟩=>⟨by rw[← r.length];exact z,?_⟩)
 have hf:H1 s1.heap.objs.size=none:=I1.hok.fresh (Nat.le_refl _)
 refine⟨.ref s1.heap.objs.size,upd H1 s1.heap.objs.size (.lst xs),I1.laid (t':=s1.toks) (fun b u e=>Heap.get?_push_of_some _ e) (Nat.le_refl _) ?_,rfl,q _ hf⟩
 exact ⟨z,us,0,r,Heap.get?_push_size _ rfl⟩
end
abbrev Sp:=List V->Hp->VK->XK->Prop
abbrev CXT:=List Env->Hp->Shared->XK->Value->Shared->Prop
structure Env0 (P:Program)(w:World)(K:PySem.W.Frag)(mg:Str->Option Value)(base:Heap)(A:Around)(outer:List Env)(s:Shared)(H:Hp):Prop where
 frames:A.frames=some outer
 mod:Mod K mg base
 bs:∀ b o,base.get? b=some o->s.heap.get? b=some o∧H b=none
 bsz:base.objs.size≤s.heap.objs.size
 funs:s.heap.FunFrames base outer
 frf:∀ b∈frs outer,H b=none
 hok:HOk P w H s.heap
 bare:AllBare s.gens
 tabs:TabsOk P K mg base H
def CE (outer:List Env)(P:Program)(w:World)(H:Hp)(s:Shared)(Q:VK)(u:Value)(s':Shared):Prop:=
 ∃ v H',s'.os=s.os∧AllBare s'.gens∧Un (frs outer) [] H H' s.heap s'.heap∧HOk P w H' s'.heap∧RelV v u∧Q v H'
def CR (CX:CXT)(outer:List Env)(P:Program)(w:World)(H:Hp)(s:Shared)(Q:VK)(E:XK)(r:Result)(s':Shared):Prop:=
 match r with
 | .ok (.ret u)=>CE outer P w H s Q u s'
 | .ok _=>False
 | .error e=>CX outer H s E e s'
structure FnOk (P:Program)(w:World)(K:PySem.W.Frag)(mg:Str->Option Value)(base:Heap)(CX:CXT)(k:Nat)(f:Addr)(fd:FuncData)(ps:List Str)(sp:Sp):Prop where
 len:∀ vs H Q E,sp vs H Q E->vs.length=ps.length
 run:∀ (A:Around) (outer:List Env) (s:Shared) (H:Hp) (args:Args) (us:List Value) (vs:List V) (Q:VK) (E:XK),Room k A->Env0 P w K mg base A outer s H->BindsTo s fd args (ps.zip us)->Vals vs us->sp vs H Q E ->
  codeAny (model P w) A (.call (.ref f) args) (CR CX outer P w H s Q E) s
theorem FnOk.mono {P:Program}{w:World}{K:PySem.W.Frag}{mg:Str->Option Value}{base:Heap}{CX:CXT}{j k:Nat}{f:Addr}{fd:FuncData}{ps:List Str}{sp:Sp}(F:FnOk P w K mg base CX j f fd ps sp)(h:j≤k) :
 FnOk P w K mg base CX k f fd ps sp:=⟨F.len,fun A outer s H args us vs Q E hr=>F.run A outer s H args us vs Q E (hr.mono h)⟩
theorem FnOk.imp {P:Program}{w:World}{K:PySem.W.Frag}{mg:Str->Option Value}{base:Heap}{CX:CXT}{k:Nat}{f:Addr}{fd:FuncData}{ps:List Str}{sp sp':Sp}(F:FnOk P w K mg base CX k f fd ps sp)
  (h:∀ vs H Q E,sp' vs H Q E->sp vs H Q E):FnOk P w K mg base CX k f fd ps sp':=
 ⟨fun vs H Q E q=>F.len vs H Q E (h _ _ _ _ q),fun A outer s H args us vs Q E hr he hb hv hs=>F.run A outer s H args us vs Q E hr he hb hv (h _ _ _ _ hs)⟩
theorem Env0.make {P:Program}{w:World}{K:PySem.W.Frag}{mg:Str->Option Value}{base:Heap}{A:Around}{outer:List Env}{s:Shared}{H:Hp}(e:Env0 P w K mg base A outer s H)(C:Addr)(us:List Value)(kw:List (Str×Value)) :
 Env0 P w K mg base (A.under (.builtin "type.__call__" ⟨.ref C::us,kw⟩)) outer s H:=⟨by first | exact e.frames | (simpa [Around.under,Code.envs,Code.isFrame,pushEnvs] using e.frames),e.mod,e.bs,e.bsz,e.funs,e.frf,e.hok,e.bare,e.tabs⟩
theorem Env0.in1 {P:Program}{w:World}{K:PySem.W.Frag}{mg:Str->Option Value}{base:Heap}{A:Around}{outer:List Env}{s:Shared}{H:Hp}(e:Env0 P w K mg base A outer s H) :
 Env0 P w K mg base A.in1 outer s H:=⟨e.frames,e.mod,e.bs,e.bsz,e.funs,e.frf,e.hok,e.bare,e.tabs⟩
section
variable {X:Cx}{pins:List (Addr×Obj)}{σ:St}{H:Hp}{s s':Shared}
theorem Inv.env0 (I:Inv X pins σ H s):Env0 X.prog X.w X.K X.mg X.base X.A X.stack s H:=
 ⟨I.ok.frames,I.ok.mod,I.bs,Nat.le_trans I.ok.bsz I.sz,I.stack,I.stkFree,I.hok,I.bare,fun x c p h1 h2=>let z:=I.ok.tabs x c p h1 h2;⟨I.base.tabs p z.1,z.2⟩⟩
theorem Inv.after {Q:VK}{u:Value}(I:Inv X pins σ H s)(h:CE X.stack X.prog X.w H s Q u s'):EP X pins σ Q u s':=by
 obtain⟨v,H',os,bare,un,hok,r,q⟩:=id (h)
 obtain⟨hh,g,d,t,os'⟩:=s'
 obtain rfl:os'=s.os:=os
 exact⟨v,H',I.call (h':=hh) (g':=g) (d':=d) (t':=t) (ch:=[]) un hok bare (fun b z=>absurd z (by simp)),r,q⟩
end
def tCall (sp:Sp)(dvs:List V)(E:XK)(t:TA):TE:=fun σ H Q=>t σ H fun vs H1=>sp (vs++dvs) H1 Q E
def tMeth (C:Addr)(m:Str)(sp:Sp)(dvs:List V)(E:XK)(ta:TE)(t:TA):TE:=fun σ H Q=>ta σ H fun x H1=>∃ a dx fs,x=.ref a∧H1 a=some (.ins C dx fs)∧fs.lookup m=none ∧
 t σ H1 fun vs H2=>sp (x::(vs++dvs)) H2 Q E
def tMake (C:Addr)(sp:Sp)(dvs:List V)(E:XK)(t:TA):TE:=fun σ H Q=>t σ H fun vs H1=>∀ x dx,H1 x=none->H1 dx=none->dx≠x ->
 sp (.ref x::(vs++dvs)) (upd (upd H1 dx (.own x)) x (.ins C dx [])) (fun v H2=>v=.non∧Q (.ref x) H2) E
def Binds (K:PySem.W.Frag)(fd:FuncData)(ps:List Str)(ds:List Value):Prop:=
 ∀ (s:Shared) (us:List Value),K.In s.heap->(us++ds).length=ps.length->BindsTo s fd ⟨us,[]⟩ (ps.zip (us++ds))
theorem Binds.all {K:PySem.W.Frag}{fd:FuncData}{ps:List Str}(h:∀ us:List Value,us.length=ps.length->bindArgs fd ⟨us,[]⟩=pure (ps.zip us)):Binds K fd ps []:=fun s us _ hl=>by
 rw[List.append_nil] at hl ⊢
 exact .of_eq (h us hl)
def Passes (CX:CXT)(X:Cx)(E:XK):Prop:=∀ (pins:List (Addr×Obj)) (σ:St) (H:Hp) (s:Shared) (e:Value) (s':Shared),Inv X pins σ H s->CX X.stack H s E e s'->X.xe e s'
section
variable {X:Cx}{CX:CXT}{k:Nat}{f C:Addr}{fd:FuncData}{ps:List Str}{sp:Sp}{dvs:List V}{ds:List Value}{E:XK}{x m:Str}{p pos apos:Pos}{e o:Expr}{es:List Expr}{ta:TE}{t:TA}
theorem run_fn {pins:List (Addr×Obj)}{σ:St}{H:Hp}{s:Shared}{Q:VK}{us:List Value}{vs:List V}(F:FnOk X.prog X.w X.K X.mg X.base CX k f fd ps sp)(hr:Room k X.A)(hb:Binds X.K fd ps ds)(hd:Vals dvs ds)(hx:Passes CX X E)
  (I:Inv X pins σ H s) (r:Vals vs us) (h:sp (vs++dvs) H Q E):wpAny (model X.prog X.w) X.A (call (.ref f) us) (EP X pins σ Q) X.xe s:=by
 have r2:Vals (vs++dvs) (us++ds):=r.append hd
 have hl:(us++ds).length=ps.length:=by rw[← r2.length];exact F.len _ _ _ _ h
 refine wpAny_call (codeAny_mono (F.run X.A X.stack s H ⟨us,[]⟩ (us++ds) (vs++dvs) Q E hr I.env0 (hb s us I.kIn hl) r2 h) fun r s' hq=>?_)
 cases r with
 | error e=>exact hx pins σ H s e s' I hq
 | ok fl=>
  cases fl with
  | ret u=>exact I.after hq
  | next=>exact False.elim hq
  | brk=>exact False.elim hq
  | cont=>exact False.elim hq
theorem pe_call (F:FnOk X.prog X.w X.K X.mg X.base CX k f fd ps sp)(hr:Room k X.A)(hg:Gl X x)(hm:X.mg x=some (.ref f))(hk:PySem.W.keepIn X.K (.ref f)=true)(hb:Binds X.K fd ps ds)(hd:Vals dvs ds)(hx:Passes CX X E)
  (ha:PA X (e::es) t) (hdb:(x==("__debug__":Str))=false:=by decide) (he:starEach (e::es) X.env=(false,eval e X.env)::starEach es X.env:=by rfl) (hpl:(backTo pos (starEach es X.env)).any (·.1)=false:=by rfl) :
  PE X (.Call (.Name x p) (e::es) [] pos) (tCall sp dvs E t):=by
 intro pins s σ H Q I h
 refine wpAny_Call_Name_kw (ld_glob I hg hm ?_ hdb)
 refine PySem.W.callWith_K (h₀:=X.base) I.ok.mod.kin hk (thn (ha pos pins s σ H _ I h) fun us s1 ⟨vs,H1,I1,r,q⟩=>⟨I1.kIn,?_⟩) he hpl
 exact run_fn F hr hb hd hx I1 r q
theorem pe_meth {pl:Sem Bool}(he:PE X o ta)(c:Cls X.K C)(hm:Meth X.K C m f)(F:FnOk X.prog X.w X.K X.mg X.base CX k f fd ps sp)(hr:Room k X.A)(hb:Binds X.K fd ps ds)(hd:Vals dvs ds)(hx:Passes CX X E)(ha:PA X (e::es) t)
  (hst:starEach (e::es) X.env=(false,eval e X.env)::starEach es X.env:=by rfl) (hpl:(backTo pos (starEach es X.env)).any (·.1)=false:=by rfl)
  (ht:eval (.Call (.Attribute o m apos) (e::es) [] pos) X.env=(do
   let ov ← eval o X.env
   standAt apos.atName
   let (f,first) ← holding [ov] (getMethod ov m pl)
   callWith pos f first (backTo pos (starEach (e::es) X.env)) (backToKw pos (keywordEach [] X.env))):=by rfl) :
  PE X (.Call (.Attribute o m apos) (e::es) [] pos) (tMeth C m sp dvs E ta t):=by
 intro pins s σ H Q I h
 refine PySem.W.methodCall_KW (pl:=pl) (thn (he pins s σ H _ I h) fun u s1 ⟨x,H1,I1,rx,a,dx,fs,ex,ea,l,q⟩=>?_) ht
 subst ex
 obtain rfl:u=Value.ref a:=rx
 refine getmeth_ok I1 ea c hm l ?_
 refine PySem.W.callWith_K (first:=[.ref a]) (h₀:=X.base) I.ok.mod.kin hm.kp (thn (ha pos pins s1 σ H1 _ I1 q) fun us s2 ⟨vs,H2,I2,r,q2⟩=>⟨I2.kIn,?_⟩) hst hpl
 exact run_fn (us:=.ref a::us) (vs:=.ref a::vs) F hr hb hd hx I2 (.cons rfl r) q2
theorem pe_meth0 {pl:Sem Bool}(he:PE X o ta)(c:Cls X.K C)(hm:Meth X.K C m f)(F:FnOk X.prog X.w X.K X.mg X.base CX k f fd ps sp)(hr:Room k X.A)(hb:Binds X.K fd ps ds)(hd:Vals dvs ds)(hx:Passes CX X E)
  (ht:eval (.Call (.Attribute o m apos) [] [] pos) X.env=(do
   let ov ← eval o X.env
   standAt apos.atName
   let (f,first) ← holding [ov] (getMethod ov m pl)
   callWith pos f first (backTo pos (starEach [] X.env)) (backToKw pos (keywordEach [] X.env))):=by rfl) :
  PE X (.Call (.Attribute o m apos) [] [] pos) (tMeth C m sp dvs E ta tNil):=by
 intro pins s σ H Q I h
 refine PySem.W.methodCall_KW (pl:=pl) (thn (he pins s σ H _ I h) fun u s1 ⟨x,H1,I1,rx,a,dx,fs,ex,ea,l,q⟩=>?_) ht
 subst ex
 obtain rfl:u=Value.ref a:=rx
 refine getmeth_ok I1 ea c hm l ?_
 exact PySem.W.callWith_K0 (first:=[.ref a]) I1.kIn hm.kp (run_fn (us:=[.ref a]) (vs:=[.ref a]) F hr hb hd hx I1 (.cons rfl .nil) q)
structure Mk (K:PySem.W.Frag)(C f:Addr):Prop where
 makes:PySem.W.makesIn K C=true
 init:PySem.W.findIn K (.ref C) "__init__"=some (some (.ref f))
 fn:PySem.W.isFn K (.ref f)=true
 kp:PySem.W.keepIn K (.ref C)=true
theorem run_make {pins:List (Addr×Obj)}{σ:St}{H:Hp}{s:Shared}{Q:VK}{us:List Value}{vs:List V}(M:Mk X.K C f)(F:FnOk X.prog X.w X.K X.mg X.base CX k f fd ps sp)(hr:Room (k+1) X.A)(hb:Binds X.K fd ps ds)(hd:Vals dvs ds)
  (hx:Passes CX X E) (I:Inv X pins σ H s) (r:Vals vs us)
  (h:∀ x dx,H x=none->H dx=none->dx≠x->sp (.ref x::(vs++dvs)) (upd (upd H dx (.own x)) x (.ins C dx [])) (fun v H2=>v=.non∧Q (.ref x) H2) E) :
  wpAny (model X.prog X.w) X.A (call (.ref C) us) (EP X pins σ Q) X.xe s:=by
 have hq:=h (s.heap.objs.size+1) s.heap.objs.size (I.hok.fresh (Nat.le_succ _)) (I.hok.fresh (Nat.le_refl _)) (Nat.ne_of_lt (Nat.lt_succ_self _))
 have I2:=Inv.made (C:=C) I
 have r2:Vals (V.ref (s.heap.objs.size+1)::(vs++dvs)) (Value.ref (s.heap.objs.size+1)::(us++ds)):=.cons rfl (r.append hd)
 have hl:(Value.ref (s.heap.objs.size+1)::us++ds).length=ps.length:=by
  have e:=r2.length
  rw[F.len _ _ _ _ hq] at e
  exact e.symm
 refine wpAny_call (make_map (f:=f) I.kIn M.makes M.init (beq_iff_eq.mp M.fn) (codeAny_mono (F.run _ X.stack _ _ ⟨Value.ref (s.heap.objs.size+1)::us,[]⟩ (Value.ref (s.heap.objs.size+1)::(us++ds)) _ _ E (hr.make C us [])
  (I2.env0.make C us []) (hb _ (Value.ref (s.heap.objs.size+1)::us) I2.kIn hl) r2 hq) fun r s' hq'=>?_))
 cases r with
 | error e=>exact hx pins σ _ _ e s' I2 hq'
 | ok fl=>
  cases fl with
  | ret u=>
   obtain⟨v,H',I3,rv,ev,q3⟩:=I2.after hq'
   subst ev
   exact⟨rv,⟨V.ref (s.heap.objs.size+1),H',I3,rfl,q3⟩⟩
  | next=>exact False.elim hq'
  | brk=>exact False.elim hq'
  | cont=>exact False.elim hq'
theorem pe_make (M:Mk X.K C f)(F:FnOk X.prog X.w X.K X.mg X.base CX k f fd ps sp)(hr:Room (k+1) X.A)(hg:Gl X x)(hm:X.mg x=some (.ref C))(hb:Binds X.K fd ps ds)(hd:Vals dvs ds)(hx:Passes CX X E)
  (ha:PA X (e::es) t) (hdb:(x==("__debug__":Str))=false:=by decide) (he:starEach (e::es) X.env=(false,eval e X.env)::starEach es X.env:=by rfl) (hpl:(backTo pos (starEach es X.env)).any (·.1)=false:=by rfl) :
  PE X (.Call (.Name x p) (e::es) [] pos) (tMake C sp dvs E t):=by
 intro pins s σ H Q I h
 refine wpAny_Call_Name_kw (ld_glob I hg hm ?_ hdb)
 refine PySem.W.callWith_K (h₀:=X.base) I.ok.mod.kin M.kp (thn (ha pos pins s σ H _ I h) fun us s1 ⟨vs,H1,I1,r,q⟩=>⟨I1.kIn,?_⟩) he hpl
 exact run_make M F hr hb hd hx I1 r q
end
section
variable {X:Cx}{CX:CXT}{k:Nat}{f C:Addr}{fd:FuncData}{ps ks:List Str}{sp:Sp}{E:XK}{x m:Str}{p pos apos kpos:Pos}{e o:Expr}{es:List Expr}{kws:List Keyword}{te ta:TE}{t tk:TA}{nm:Option Str}
structure KBinds (K:PySem.W.Frag)(fd:FuncData)(ps ks:List Str)(g:List Value->List Value->List Value)(gV:List V->List V->List V):Prop where
 to:∀ (s:Shared) (us ws:List Value),K.In s.heap->(g us ws).length=ps.length->BindsTo s fd ⟨us,ks.zip ws⟩ (ps.zip (g us ws))
 rel:∀ {vs:List V} {us:List Value} {zs:List V} {ws:List Value},Vals vs us->Vals zs ws->Vals (gV vs zs) (g us ws)
variable {g:List Value->List Value->List Value}{gV:List V->List V->List V}
end
structure FnScope (N P:List Str)(sc:Scope):Prop where
 kind:sc.kind=.function
 co:sc.isCoroutine=false
 gen:sc.isGenerator=false
 nd:N.Nodup
 pre:N.take P.length=P
 par:∀ x∈P,sc.names.lookup x=some .local∨sc.names.lookup x=some .cell
 nofree:∀ y∈sc.names,y.2≠.free
theorem bindL_out {kindOf:Str->Option NameKind}{x:Str}:∀ {binds:List (Str×Value)} {m:Str->Option Value},(∀ v,(x,v)∉binds)->bindL kindOf binds m x=m x
 | [],_,_=>rfl
 | (n,v)::r,m,h=>by
  unfold bindL
  rw[bindL_out fun w hw=>h w (List.mem_cons_of_mem _ hw)]
  split
  ·have:x≠n:=by rintro rfl;exact h v List.mem_cons_self
   simp[this]
  ·rfl
theorem bindC_out {kindOf:Str->Option NameKind}{x:Str}:∀ {binds:List (Str×Value)} {m:Str->Option Value},(∀ v,(x,v)∉binds)->bindC kindOf binds m x=m x
 | [],_,_=>rfl
 | (n,v)::r,m,h=>by
  unfold bindC
  rw[bindC_out fun w hw=>h w (List.mem_cons_of_mem _ hw)]
  split
  ·rfl
  ·have:x≠n:=by rintro rfl;exact h v List.mem_cons_self
   simp[this]
theorem bindL_get {kindOf:Str->Option NameKind}{x:Str}{v:Value}:∀ {P:List Str} {vs:List Value} {i:Nat} {m:Str->Option Value},P.Nodup->P[i]?=some x->vs[i]?=some v->kindOf x=some .local ->
  bindL kindOf (P.zip vs) m x=some v
 | [],_,_,_,_,h,_,_=>by simp at h
 | _::_,[],_,_,_,_,h,_=>by simp at h
 | p::P,w::vs,0,m,nd,h1,h2,hk=>by
  simp at h1 h2;subst h1;subst h2
  show bindL kindOf ((p,w)::P.zip vs) m p=_
  unfold bindL
  rw[bindL_out fun v hv=>(List.nodup_cons.mp nd).1 (List.of_mem_zip hv).1,if_pos hk]
  simp
 | p::P,w::vs,i+1,m,nd,h1,h2,hk=>by
  show bindL kindOf ((p,w)::P.zip vs) m x=_
  unfold bindL
  exact bindL_get (i:=i) (List.nodup_cons.mp nd).2 (by simpa using h1) (by simpa using h2) hk
theorem bindC_get {kindOf:Str->Option NameKind}{x:Str}{v:Value}:∀ {P:List Str} {vs:List Value} {i:Nat} {m:Str->Option Value},P.Nodup->P[i]?=some x->vs[i]?=some v->kindOf x≠some .local ->
  bindC kindOf (P.zip vs) m x=some v
 | [],_,_,_,_,h,_,_=>by simp at h
 | _::_,[],_,_,_,_,h,_=>by simp at h
 | p::P,w::vs,0,m,nd,h1,h2,hk=>by
  simp at h1 h2;subst h1;subst h2
  show bindC kindOf ((p,w)::P.zip vs) m p=_
  unfold bindC
  rw[bindC_out fun v hv=>(List.nodup_cons.mp nd).1 (List.of_mem_zip hv).1,if_neg hk]
  simp
 | p::P,w::vs,i+1,m,nd,h1,h2,hk=>by
  show bindC kindOf ((p,w)::P.zip vs) m x=_
  unfold bindC
  exact bindC_get (i:=i) (List.nodup_cons.mp nd).2 (by simpa using h1) (by simpa using h2) hk
def start (N:List Str)(vs:List V):St:=vs.map some++List.replicate (N.length - vs.length) none
def cxOf (CX:CXT)(P:Program)(w:World)(K:PySem.W.Frag)(mg:Str->Option Value)(base:Heap)(N:List Str)(qual:Str)(scope:Scope)(f:Addr)(cd:Value)(A:Around)(outer:List Env)(s:Shared)(H:Hp)(E:XK):Cx where
 prog:=P
 w:=w
 K:=K
 mg:=mg
 base:=base
 A:=A.deeper (envOfC qual scope s.heap.objs.size f cd)
 N:=N
 s₀:=s
 H₀:=H
 env:=envOfC qual scope s.heap.objs.size f cd
 outer:=outer
 stack:=envOfC qual scope s.heap.objs.size f cd::outer
 ex:=[]
 calm:=true
 fn:=fun _=>true
 pn:=[]
 xe:=fun e s'=>wpAny (model P w) (A.deeper (envOfC qual scope s.heap.objs.size f cd)) (leaving (envOfC qual scope s.heap.objs.size f cd) e) (fun _ s''=>CX outer H s E e s'') (fun e' s''=>CX outer H s E e' s'') s'
theorem cell_has {sc:Scope}{n:Nat}{x:Str}(h:sc.names.lookup x=some .cell):∃ c,(cellsFrom n sc.names []).lookup x=some c:=by
 have q:=PySem.W.cellsFrom_some sc.names n [] (.inl h)
 exact Option.isSome_iff_exists.mp q
theorem inv_start {CX:CXT}{P:Program}{w:World}{K:PySem.W.Frag}{mg:Str->Option Value}{base:Heap}{N ps:List Str}{qual:Str}{scope:Scope}{f:Addr}{cd:Value}{A:Around}{outer:List Env}{s s1:Shared}{H:Hp}{E:XK}{us:List Value}{vs:List V}
  (S:FnScope N ps scope) (hd:A.handled=none) (e0:Env0 P w K mg base A outer s H) (hl:vs.length=ps.length) (r:Vals vs us)
  (x:InCallC s s.heap.objs.size (bindL (envOfC qual scope s.heap.objs.size f cd).kindOf (ps.zip us) fun _=>none) (cellsFrom (s.heap.objs.size+1) scope.names []) (bindC (envOfC qual scope s.heap.objs.size f cd).kindOf (ps.zip us) fun _=>none) s1) :
  Inv (cxOf CX P w K mg base N qual scope f cd A outer s H E) [] (start N vs) H s1:=by
 have hpl:ps.length≤N.length:=by have:=congrArg List.length S.pre;rw[List.length_take] at this;omega
 obtain⟨h1,tk,zq2,hk⟩:=x.done
 subst zq2
 have noA:∀ b:Addr,b∉(cxOf CX P w K mg base N qual scope f cd A outer s H E).ex:=fun b z=>absurd (show b∈([]:List Addr) from z) (by simp)
 refine⟨⟨e0.mod,S.kind,rfl,rfl,Nat.le_refl _,fun y z c h1 h2=>?_,fun y hy=>?_,fun y c _ h=>?_,fun _=>hd,Around.frames_deeper e0.frames,.inr ⟨rfl,rfl⟩,fun b z=>absurd z (noA b),e0.bs,e0.bsz,fun b _ _=>noA b,fun b z=>absurd z (noA b),e0.funs,e0.frf,e0.tabs⟩,
  rfl,e0.bare,Un.kept hk,⟨_,x.toInCall.ns,fun i y v h1 h2 h3=>?_⟩,fun y c h=>⟨_,x.cell y c h⟩,e0.hok.fresh (Nat.le_refl _),fun y c h=>?_,fun p hp=>absurd (show p∈([]:List (Addr×Obj)) from hp) (by simp),e0.hok.kept hk,?_⟩
 ·exact name_of_addr x.apart (PySem.mem_of_lookup h1) (PySem.mem_of_lookup h2)
 ·have hy:scope.names.lookup y=some .cell∨scope.names.lookup y=some .free:=hy
  rcases hy with hy | hy
  ·exact cell_has hy
  ·exact absurd rfl (S.nofree _ (PySem.mem_of_lookup hy))
 ·exact Nat.le_of_lt (x.above y c (PySem.mem_of_lookup h))
 ·have hi:i<vs.length:=by
   unfold start at h2
   by_cases hi:i<vs.length
   ·exact hi
   ·rw[List.getElem?_append_right (by simpa using hi)] at h2
    rw[List.getElem?_replicate] at h2
    split at h2 <;> cases h2
  have ha:vs[i]?=some v:=by
   unfold start at h2
   rw[List.getElem?_append_left (by simpa using hi),List.getElem?_map] at h2
   cases e:vs[i]? with
   | none=>rw[e] at h2;cases h2
   | some a=>rw[e] at h2;cases h2;rfl
  obtain⟨u,hu,rv⟩:=r.get ha
  have hp:ps[i]?=some y:=by
   rw[← S.pre,List.getElem?_take_of_lt (by omega)];exact h1
  have ndP:ps.Nodup:=by rw[← S.pre];exact S.nd.sublist (List.take_sublist _ _)
  refine⟨u,rv,?_⟩
  rcases S.par y (List.mem_of_getElem? hp) with k | k
  ·exact .inl ⟨k,bindL_get ndP hp hu k⟩
  ·obtain⟨c,e⟩:=cell_has (n:=s.heap.objs.size+1) k
   refine .inr ⟨.inl k,c,e,?_⟩
   have q:=x.cell y c e
   rw[bindC_get ndP hp hu (by show scope.names.lookup y≠_;rw[k];decide)] at q
   exact q
 ·exact .inl (e0.hok.fresh (Nat.le_of_lt (x.above y c (PySem.mem_of_lookup h))))
 ·unfold start
  show _=N.length
  rw[List.length_append,List.length_map,List.length_replicate]
  omega
theorem fn_of {CX:CXT}{P:Program}{w:World}{K:PySem.W.Frag}{mg:Str->Option Value}{base:Heap}{k:Nat}{f:Addr}{name qual:Str}{params:Arguments}{body:List Stmt}{scope:Scope}{dV kV doc pm cdv ct oc:Value}{an od:Option Addr}
  {osl:Array (Option Value)} {N ps:List Str} {sp:Sp} (lk:K.lookup f=some ⟨oc,od,.func (PySem.W.fnOf name qual params body scope dV kV doc pm an cdv ct),osl⟩) (hcd:PySem.W.codeIn K cdv qual=true) (S:FnScope N ps scope)
  (len:∀ vs H Q E,sp vs H Q E->vs.length=ps.length)
  (hbody:∀ (A:Around) (outer:List Env) (s:Shared) (H:Hp) (vs:List V) (Q:VK) (E:XK),Room k (A.deeper (envOfC qual scope s.heap.objs.size f cdv))->sp vs H Q E ->
   ∃ t,PSs (cxOf CX P w K mg base N qual scope f cdv A outer s H E) body t∧t { nx:=fun _ H'=>Q .non H',rt:=Q } (start N vs) H) :
  FnOk P w K mg base CX (k+1) f (PySem.W.fnOf name qual params body scope dV kV doc pm an cdv ct) ps sp:=by
 refine⟨len,fun A outer s H args us vs Q E hr e0 hb r hsp=>?_⟩
 have hl:=len _ _ _ _ hsp
 have KX:K.In s.heap:=e0.mod.kin.keeps fun b o e=>(e0.bs b o e).1
 have lim:s.heap.NoLimit:=e0.mod.nolimit.keeps fun b o e=>(e0.bs b o e).1
 have hkind:∀ y∈ps.zip us,scope.names.lookup y.1=some .local∨(scope.names.lookup y.1=some .cell∧((cellsFrom (s.heap.objs.size+1) scope.names []).lookup y.1).isSome=true):=fun ⟨n,v⟩ hy=>by
  rcases S.par n (List.of_mem_zip hy).1 with q | q
  ·exact .inl q
  ·exact .inr ⟨q,PySem.W.cellsFrom_some _ _ _ (.inl q)⟩
 refine codeAny_call_function hr.depth (KX _ _ lk) rfl S.co S.gen rfl (PySem.W.codeRec_of KX hcd) (hb _ _ _ _ ?_)
 refine wpAny_newFunctionEnv_cells S.kind hkind fun env he s1 x=>?_
 subst he
 refine⟨lim.keeps x.toInCall.keep,codeAny_func ?_⟩
 obtain⟨t,ht,hq⟩:=hbody A outer s H vs Q E (hr.deeper _) hsp
 have I:Inv (cxOf CX P w K mg base N qual scope f cdv A outer s H E) [] (start N vs) H s1:=inv_start S hr.hd e0 hl r x
 refine wpAny_mono (ht [] s1 (start N vs) H _ I hq) (fun fl s' hs=>?_) fun e s' hs=>hs
 have fin:∀ {σ':St} {H':Hp} {v:V} {u:Value},Inv (cxOf CX P w K mg base N qual scope f cdv A outer s H E) [] σ' H' s'->RelV v u->Q v H'->CE outer P w H s Q u s':=
  fun {σ' H' v u} J rv q=>⟨v,H',J.os,J.bare,J.base,J.hok,rv,q⟩
 cases fl with
 | ret u=>
  obtain⟨v,σ',H',J,rv,q⟩:=id (hs)
  exact fin J rv q
 | next=>
  obtain⟨σ',H',J,q⟩:=id (hs)
  exact fin (v:=V.non) (u:=Value.none) J rfl q
 | brk=>
  obtain⟨_,_,_,q⟩:=id (hs)
  exact False.elim q
 | cont=>
  obtain⟨_,_,_,q⟩:=id (hs)
  exact False.elim q
end L2
namespace L2
section
variable {X:Cx}{x:Str}{p pos:Pos}{e:Expr}{es:List Expr}{t:TA}{id T:String}{r:List V->Hp->VK->Prop}
def tCB (r:List V->Hp->VK->Prop)(t:TA):TE:=fun σ H Q=>t σ H fun vs H1=>r vs H1 Q
theorem pe_callB (hc:CallR X (.builtin id) r)(hg:Gl X x)(hm:X.mg x=none)(hv:bootBuiltins x=some (.builtin id))(ha:PA X (e::es) t)(hn:x≠"__name__":=by decide)(hdb:(x==("__debug__":Str))=false:=by decide)
  (he:starEach (e::es) X.env=(false,eval e X.env)::starEach es X.env:=by rfl) (hpl:(backTo pos (starEach es X.env)).any (·.1)=false:=by rfl):PE X (.Call (.Name x p) (e::es) [] pos) (tCB r t):=by
 intro pins s σ H Q I h
 refine wpAny_Call_Name_kw (ld_blt I hg hm hv ?_ hn hdb)
 exact PyProof.Rows.callWith_builtin1 (thn (ha pos pins s σ H _ I h) fun us s1 ⟨vs,H1,I1,r1,q1⟩=>hc pins s1 σ H1 vs us Q I1 r1 q1) he hpl
theorem pe_callTy (hc:CallR X (.type T) r)(hg:Gl X x)(hm:X.mg x=none)(hv:bootBuiltins x=some (.type T))(ha:PA X (e::es) t)(hn:x≠"__name__":=by decide)(hdb:(x==("__debug__":Str))=false:=by decide)
  (he:starEach (e::es) X.env=(false,eval e X.env)::starEach es X.env:=by rfl) (hpl:(backTo pos (starEach es X.env)).any (·.1)=false:=by rfl):PE X (.Call (.Name x p) (e::es) [] pos) (tCB r t):=by
 intro pins s σ H Q I h
 refine wpAny_Call_Name_kw (ld_blt I hg hm hv ?_ hn hdb)
 exact PyProof.Rows.callWith_type1 (thn (ha pos pins s σ H _ I h) fun us s1 ⟨vs,H1,I1,r1,q1⟩=>hc pins s1 σ H1 vs us Q I1 r1 q1) he hpl
end
end L2
namespace HT
open PySem PyProof.Rows
section
open PySem.SeqAt
open PySem.AutoSeq1 (wpAny_loadPart')
open PySem.MeetsSeq PySem.MeetsSeq2 PySem.MeetsSeq3
end
section
variable {prog:Program}{w:World}{A:Around}{E:Value->Shared->Prop}{s:Shared}
def sIx (n d:Nat):Option Int->Nat
 | none=>d
 | some v=>if v<0 then (v+(n:Int)).toNat else min v.toNat n
theorem sIx_nat (n d k:Nat):sIx n d (some (k:Int))=min k n:=by
 show (if (k:Int)<0 then ((k:Int)+(n:Int)).toNat else min (k:Int).toNat n)=min k n
 rw[if_neg (by omega),Int.toNat_natCast]
end
end HT
namespace L2
abbrev TO:=St->Hp->(Option Int->Hp->Prop)->Prop
def PO (X:Cx)(e:Option Expr)(t:TO):Prop:=
 ∀ (pins:List (Addr×Obj)) (s:Shared) (σ:St) (H:Hp) (Q:Option Int->Hp->Prop),Inv X pins σ H s->t σ H Q ->
  wpAny (model X.prog X.w) X.A (evalPart e X.env) (fun u s'=>∃ o H',Inv X pins σ H' s'∧IsPart u o∧Q o H') X.xe s
def tNoPart:TO:=fun _ H Q=>Q none H
def tPart (t:TE):TO:=fun σ H Q=>t σ H fun x H1=>∃ i,x=.int i∧Q (some i) H1
theorem intsAre_of {ns:List Int}:∀ {us:List Value},Vals (ns.map V.int) us->IntsAre us ns:=by
 induction ns with
 | nil=>intro us r;rw[List.map_nil] at r;cases r;exact .nil
 | cons n ns ih=>
  intro us r
  rw[List.map_cons] at r
  cases r with
  | cons r1 r2=>
   obtain⟨t,e⟩:=id (r1)
   subst e
   exact .cons n t (ih r2)
section
variable {X:Cx}{e:Expr}{te:TE}{lo hi:Option Expr}{tl th:TO}{pos p2:Pos}
theorem po_none:PO X none tNoPart:=by
 intro pins s σ H Q I h
 rw[evalPart_none]
 exact wpAny_pure ⟨none,H,I,.none,h⟩
theorem po_some (h:PE X e te):PO X (some e) (tPart te):=by
 intro pins s σ H Q I hw
 rw[evalPart_some]
 refine thn (h pins s σ H _ I hw) fun u s1 zpat=>?_
 obtain⟨x,H1,I1,r1,q1⟩:=zpat
 revert q1
 refine fun zqq=>?_;obtain⟨i,zq1,q⟩:=zqq
 subst zq1
 revert r1
 refine fun zqq=>?_;obtain⟨t,zq1⟩:=zqq
 subst zq1
 exact ⟨some i,H1,I1,.int i t,q⟩
def SlR (X:Cx)(r:V->Option Int->Option Int->Hp->VK->Prop):Prop:=
 ∀ (pins:List (Addr×Obj)) (s:Shared) (σ:St) (H:Hp) (x:V) (v vl vu:Value) (lo hi:Option Int) (sl:Addr) (Q:VK),Inv X pins σ H s->RelV x v->s.heap.IsSliceOf sl vl vu .none->IsPart vl lo->IsPart vu hi->r x lo hi H Q ->
  ∃ T id,typeLookup (.type T) "__getitem__"=pure (some (.builtin id))∧s.TypeIs v T∧wpAny (model X.prog X.w) X.A (getItem v (.ref sl)) (EP X pins σ Q) X.xe s
theorem SlR.or {r r':V->Option Int->Option Int->Hp->VK->Prop}(h:SlR X r)(h':SlR X r'):SlR X (fun x lo hi H Q=>r x lo hi H Q∨r' x lo hi H Q):=by
 intro pins s σ H x v vl vu lo hi sl Q I rx hs pl pu q
 rcases q with q | q
 ·exact h pins s σ H x v vl vu lo hi sl Q I rx hs pl pu q
 ·exact h' pins s σ H x v vl vu lo hi sl Q I rx hs pl pu q
def tSl (r:V->Option Int->Option Int->Hp->VK->Prop)(te:TE)(tl th:TO):TE:=fun σ H Q=>te σ H fun x H1=>tl σ H1 fun l H2=>th σ H2 fun u H3=>r x l u H3 Q
theorem pe_slice {r:V->Option Int->Option Int->Hp->VK->Prop}(hr:SlR X r)(he:PE X e te)(hl:PO X lo tl)(hu:PO X hi th):PE X (.Subscript e (.Slice lo hi none p2) pos) (tSl r te tl th):=by
 intro pins s σ H Q I h
 refine Subscript_ (thn (he pins s σ H _ I h) fun v s1 zpat=>?_)
 obtain⟨x,H1,I1,r1,q1⟩:=zpat
 refine wpAny_Slice (thn (hl pins s1 σ H1 _ I1 q1) fun vl s2 ⟨l,H2,I2,pl,q2⟩=>thn (hu pins s2 σ H2 _ I2 q2) fun vu s3 zpat=>?_)
 obtain⟨u,H3,I3,pu,q3⟩:=zpat
 rw[evalPart_none]
 refine wpAny_pure ?_
 have I4:Inv X pins σ H3 { s3 with heap:=s3.heap.push { cls:=.type "slice",data:=.fields #[vl,vu,.none] } }:=I3.kept (t':=s3.toks) fun b ob q=>Heap.get?_push_of_some _ q
 obtain⟨T,id,hT,ht,hg⟩:=hr pins { s3 with heap:=s3.heap.push { cls:=.type "slice",data:=.fields #[vl,vu,.none] } } σ H3 x v vl vu l u s3.heap.objs.size Q I4 r1 (Heap.IsSliceOf.new ..) pl pu q3
 show wpAny (model X.prog X.w) X.A (subscriptTail e (.Slice lo hi none p2) v (.ref s3.heap.objs.size)) (EP X pins σ Q) X.xe { s3 with heap:=s3.heap.push { cls:=.type "slice",data:=.fields #[vl,vu,.none] } }
 exact tail_any (ops:=[.ref s3.heap.objs.size,v]) ht hT hg (by with_unfolding_all rfl)
def cutV (xs:List V)(lo hi:Option Int):List V:=(xs.drop (HT.sIx xs.length 0 lo)).take (HT.sIx xs.length xs.length hi - HT.sIx xs.length 0 lo)
theorem cutV_length (xs:List V)(lo hi:Option Int):(cutV xs lo hi).length≤xs.length:=by
 unfold cutV
 rw[List.length_take,List.length_drop]
 omega
end
end L2
namespace L2
def ixN (n:Nat)(i:Int):Option Nat:=if 0≤i then (if i<n then some i.toNat else none) else if -(n:Int)≤i then some (i+n).toNat else none
def atI {α:Type}(xs:List α)(i:Int):Option α:=(ixN xs.length i).bind fun j=>xs[j]?
theorem ixN_seq {n:Nat}{i:Int}{j:Nat}(h:ixN n i=some j):seqIndex? i n=some j∧j<n∧-(n:Int)≤i∧i<n:=by
 unfold ixN at h
 by_cases h0:0≤i
 ·rw[if_pos h0] at h
  by_cases h1:i<n
  ·rw[if_pos h1] at h
   have e:i.toNat=j:=Option.some.inj h
   exact⟨by rw[seqIndex_of h0 h1,e],by omega,by omega,h1⟩
  ·rw[if_neg h1] at h;cases h
 ·rw[if_neg h0] at h
  by_cases h1:-(n:Int)≤i
  ·rw[if_pos h1] at h
   have e:(i+n).toNat=j:=Option.some.inj h
   exact⟨by rw[seqIndex_neg (by omega) h1,e],by omega,h1,by omega⟩
  ·rw[if_neg h1] at h;cases h
theorem atI_get {α:Type}{xs:List α}{i:Int}{v:α}(h:atI xs i=some v):∃ j,seqIndex? i xs.length=some j∧xs[j]?=some v∧j<xs.length∧-(xs.length:Int)≤i∧i<xs.length:=by
 unfold atI at h
 cases e:ixN xs.length i with
 | none=>rw[e] at h;cases h
 | some j=>
  rw[e] at h
  obtain⟨h1,h2,h3,h4⟩:=ixN_seq e
  exact⟨j,h1,h,h2,h3,h4⟩
theorem atI_nat {α:Type}{xs:List α}{j:Nat}{v:α}(h:xs[j]?=some v):atI xs (j:Int)=some v:=by
 have hj:j<xs.length:=(List.getElem?_eq_some_iff.mp h).1
 have e:ixN xs.length (j:Int)=some j:=by
  unfold ixN
  rw[if_pos (by omega),if_pos (by omega)];simp
 unfold atI;rw[e];exact h
def PlainIx (b:Expr):Prop:=∀ o i,subscripted b false o i=operate [o,i] (getItem o i)
def IxR (X:Cx)(r:R2):Prop:=
 ∀ (value slice:Expr) (pins:List (Addr×Obj)) (s:Shared) (σ:St) (H:Hp) (x y:V) (v u:Value) (Q:VK),Inv X pins σ H s->RelV x v->RelV y u->r x y H Q ->
  subscripted slice false v u=operate [v,u] (getItem v u)->wpAny (model X.prog X.w) X.A (subscriptTail value slice v u) (EP X pins σ Q) X.xe s
def MtR (X:Cx)(id:String)(r:V->List V->Hp->VK->Prop):Prop:=
 ∀ (pins:List (Addr×Obj)) (s:Shared) (σ:St) (H:Hp) (x:V) (xs:List V) (v:Value) (us:List Value) (Q:VK),Inv X pins σ H s->RelV x v->Vals xs us->r x xs H Q ->
  wpAny (model X.prog X.w) X.A (call (.builtin id) (v::us)) (EP X pins σ Q) X.xe s
section
variable {X:Cx}{a b:Expr}{ta tb:TE}{pos:Pos}
theorem IxR.or {r r':R2}(h:IxR X r)(h':IxR X r'):IxR X (fun x y H Q=>r x y H Q∨r' x y H Q):=by
 intro value slice pins s σ H x y v u Q I rx ry q hs
 rcases q with q | q
 ·exact h value slice pins s σ H x y v u Q I rx ry q hs
 ·exact h' value slice pins s σ H x y v u Q I rx ry q hs
theorem MtR.or {id:String}{r r':V->List V->Hp->VK->Prop}(h:MtR X id r)(h':MtR X id r'):MtR X id (fun x xs H Q=>r x xs H Q∨r' x xs H Q):=by
 intro pins s σ H x xs v us Q I rx rs q
 rcases q with q | q
 ·exact h pins s σ H x xs v us Q I rx rs q
 ·exact h' pins s σ H x xs v us Q I rx rs q
theorem pe_ix {r:R2}(hr:IxR X r)(ha:PE X a ta)(hb:PE X b tb)(hs:PlainIx b):PE X (.Subscript a b pos) (tOp r ta tb):=by
 intro pins s σ H Q I h
 exact Subscript_ (binT ha hb I h fun v u s2 x y H2 I2 rx ry q=>hr a b pins s2 σ H2 x y v u Q I2 rx ry q (hs _ _))
def rIxL (K:PySem.W.Frag):R2:=fun x y H Q=>∃ p xs i v,x=.ref p∧y=.int i∧SqL K H p xs∧atI xs i=some v∧Q v H
def rIxT (K:PySem.W.Frag):R2:=fun x y H Q=>∃ p xs i v,x=.ref p∧y=.int i∧SqT K H p xs∧atI xs i=some v∧Q v H
theorem ix_list:IxR X (rIxL X.K):=by
 intro value slice pins s σ H x y v u Q I rx ry h hs
 revert h
 refine fun zqq=>?_;obtain⟨p,xs,i,z,zq4,zq5,hq,he,q⟩:=zqq
 subst zq4
 subst zq5
 cases rx
 revert ry
 refine fun zqq=>?_;obtain⟨t,zq1⟩:=zqq
 subst zq1
 obtain⟨its,r,pl,hz⟩:=I.list hq
 obtain⟨j,h1,h2,h3,h4,h5⟩:=atI_get he
 obtain⟨w,ew,rw'⟩:=r.get h2
 have hl:=r.length
 have hn:=line63
 have fin:EP X pins σ Q w s:=⟨z,H,I,rw',q⟩
 by_cases h0:0≤i
 ·have hj:i.toNat=j:=by
   rw[seqIndex_of h0 h5] at h1
   exact Option.some.inj h1
  exact item_listR pl.isList h0 (by omega) (by rw[hj];simpa using ew) fin hs
 ·have hj:(i+(its.toArray.size:Int)).toNat=j:=by
   rw[seqIndex_neg (by omega) h4] at h1
   rw[List.size_toArray,← hl]
   exact Option.some.inj h1
  exact subscriptTail_builtinR (x:=w) pl.isList.typeIs slot_list_getitem.lookup
   (wpAny_getItem_list_neg (Q:=fun r s'=>r=w∧EP X pins σ Q r s') pl.isList (by omega) (by rw[List.size_toArray] <;> omega) (by omega) (by rw[hj];simpa using ew) ⟨rfl,fin⟩) hs
theorem ix_tup:IxR X (rIxT X.K):=by
 intro value slice pins s σ H x y v u Q I rx ry h hs
 revert h
 refine fun zqq=>?_;obtain⟨p,xs,i,z,zq4,zq5,hq,he,q⟩:=zqq
 subst zq4
 subst zq5
 cases rx
 revert ry
 refine fun zqq=>?_;obtain⟨t,zq1⟩:=zqq
 subst zq1
 obtain⟨its,r,pl,hz⟩:=I.tuple hq
 obtain⟨j,h1,h2,h3,h4,h5⟩:=atI_get he
 obtain⟨w,ew,rw'⟩:=r.get h2
 have hl:=r.length
 have hn:=line63
 have fin:EP X pins σ Q w s:=⟨z,H,I,rw',q⟩
 exact subscriptTail_builtinR (x:=w) pl.typeIs slot_tuple_getitem.lookup
  (getItem_tuple (j:=j) (Q:=fun r s'=>r=w∧EP X pins σ Q r s') pl (by omega) (by omega) (by rw[List.size_toArray,← hl];exact h1) (by simpa using ew) ⟨rfl,fin⟩) hs
theorem Inv.lst {pins:List (Addr×Obj)}{σ:St}{H:Hp}{s:Shared}{p:Addr}{xs:List V}(I:Inv X pins σ H s)(h:H p=some (.lst xs)) :
  ∃ (its:List Value) (n:Nat),Vals xs its∧s.heap.get? p=some { cls:=.type "list",data:=.seq its.toArray n }∧xs.length≤sizeLine:=by
 obtain⟨z,its,n,r,e⟩:=I.hok p _ h
 exact ⟨its,n,r,e,z⟩
theorem slice_bounds (lo hi:Option Int)(n:Nat):(sliceBounds lo hi none n).1=((HT.sIx n 0 lo:Nat):Int)∧(sliceBounds lo hi none n).2.1=((HT.sIx n n hi:Nat):Int)∧(sliceBounds lo hi none n).2.2=1:=by
 refine⟨?_,?_,rfl⟩
 ·cases lo with
  | none=>simp[sliceBounds,HT.sIx]
  | some i=>
   simp only[sliceBounds,HT.sIx,Option.getD_none,show (1:Int)>0 by decide,if_true]
   by_cases h:i<0
   ·simp only[h,if_true] <;> omega
   ·simp only[h,if_false] <;> omega
 ·cases hi with
  | none=>simp[sliceBounds,HT.sIx]
  | some i=>
   simp only[sliceBounds,HT.sIx,Option.getD_none,show (1:Int)>0 by decide,if_true]
   by_cases h:i<0
   ·simp only[h,if_true] <;> omega
   ·simp only[h,if_false] <;> omega
theorem slicePick_cut (its:List Value)(lo hi:Option Int):slicePick its.toArray lo hi none=((its.drop (HT.sIx its.length 0 lo)).take (HT.sIx its.length its.length hi - HT.sIx its.length 0 lo)).toArray:=by
 obtain⟨h1,h2,h3⟩:=slice_bounds lo hi its.toArray.size
 unfold slicePick
 rw[h1,h2,h3]
 simp only[sliceRange_one,pick_run,List.size_toArray] <;> rfl
def rSlL (K:PySem.W.Frag):V->Option Int->Option Int->Hp->VK->Prop:=fun x lo hi H Q=>∃ a xs,x=.ref a∧SqL K H a xs∧∀ p,H p=none->Q (.ref p) (upd H p (.lst (cutV xs lo hi)))
theorem sl_list:SlR X (rSlL X.K):=by
 intro pins s σ H x v vl vu lo hi sl Q I rx hs pl pu h
 revert h
 refine fun zqq=>?_;obtain⟨a,xs,zq2,hx,q⟩:=zqq
 subst zq2
 cases rx
 obtain⟨its,r,ht,hz⟩:=I.list hx
 have hlen:=r.length
 refine ⟨"list",_,slot_list_getitem.lookup,ht.isList.typeIs,?_⟩
 refine wpAny_getItem_list_slice ht.isList hs pl pu .none (by simp) ?_ (by rw[List.size_toArray] <;> omega)
 rw[slicePick_cut,← hlen]
 refine⟨.ref s.heap.objs.size,_,I.laid (t':=s.toks) (o:=.lst (cutV xs lo hi)) (fun b ob q=>Heap.get?_push_of_some _ q) (Nat.le_refl _) ?_,rfl,q _ (I.hok.fresh (Nat.le_refl _))⟩
 exact ⟨Nat.le_trans (cutV_length xs lo hi) hz,_,0,(r.drop (HT.sIx xs.length 0 lo)).take (HT.sIx xs.length xs.length hi - HT.sIx xs.length 0 lo),Heap.get?_push_size _ rfl⟩
def flatV:V->Bool
 | .non=>true
 | .bl _=>true
 | .int _=>true
 | .str _=>true
 | _=>false
def eqV:V->V->Bool
 | .non,.non=>true
 | .bl a,.bl b=>a==b
 | .bl a,.int b=>(if a then 1 else 0)==b
 | .int a,.bl b=>a==(if b then 1 else 0)
 | .int a,.int b=>a==b
 | .str a,.str b=>a==b
 | _,_=>false
theorem eqAt_V {A:Around}{s:Shared}{y x:V}{u v:Value}(ry:RelV y u)(rx:RelV x v)(fy:flatV y=true)(fx:flatV x=true):SeqAt.EqAt A s u v (eqV y x):=by
 cases y with
 | non=>
  cases ry
  cases x with
  | non=>cases rx;exact SeqAt.EqAt.same _
  | bl b=>cases rx;exact SeqAt.EqAt.none_bool b
  | int b=>obtain⟨t,rfl⟩:=rx;exact SeqAt.EqAt.none_int b t
  | str b=>obtain⟨t,rfl⟩:=rx;exact SeqAt.EqAt.none_str b t
  | _=>exact absurd (show false=true from fx) Bool.false_ne_true
 | bl a=>
  cases ry
  cases x with
  | non=>cases rx;exact SeqAt.EqAt.bool_none a
  | bl b=>cases rx;exact SeqAt.EqAt.bool_bool a b
  | int b=>obtain⟨t,rfl⟩:=rx;exact SeqAt.EqAt.bool_int a b t
  | str b=>obtain⟨t,rfl⟩:=rx;exact SeqAt.EqAt.bool_str a b t
  | _=>exact absurd (show false=true from fx) Bool.false_ne_true
 | int a=>
  revert ry
  refine fun zqq=>?_;obtain⟨t',zq1⟩:=zqq
  subst zq1
  cases x with
  | non=>cases rx;exact SeqAt.EqAt.int_none a t'
  | bl b=>cases rx;exact SeqAt.EqAt.int_bool a t' b
  | int b=>obtain⟨t,rfl⟩:=rx;exact SeqAt.EqAt.int_int a t' b t
  | str b=>obtain⟨t,rfl⟩:=rx;exact SeqAt.EqAt.int_str a t' b t
  | _=>exact absurd (show false=true from fx) Bool.false_ne_true
 | str a=>
  revert ry
  refine fun zqq=>?_;obtain⟨t',zq1⟩:=zqq
  subst zq1
  cases x with
  | non=>cases rx;exact SeqAt.EqAt.str_none a t'
  | bl b=>cases rx;exact SeqAt.EqAt.str_bool a t' b
  | int b=>obtain⟨t,rfl⟩:=rx;exact SeqAt.EqAt.str_int a t' b t
  | str b=>obtain⟨t,rfl⟩:=rx;exact SeqAt.EqAt.str_str a t' b t
  | _=>exact absurd (show false=true from fx) Bool.false_ne_true
 | _=>exact absurd (show false=true from fy) Bool.false_ne_true
def eqU (x:V)(u:Value):Bool:=match u with
 | .none=>eqV .non x
 | .bool b=>eqV (.bl b) x
 | .int i _=>eqV (.int i) x
 | .str z _=>eqV (.str z) x
 | _=>false
theorem eqU_of {x y:V}{u:Value}(r:RelV y u)(f:flatV y=true):eqU x u=eqV y x:=by
 cases y with
 | non=>cases r;rfl
 | bl b=>cases r;rfl
 | int i=>obtain⟨t,rfl⟩:=r;rfl
 | str z=>obtain⟨t,rfl⟩:=r;rfl
 | _=>exact absurd (show false=true from f) Bool.false_ne_true
theorem mem_eqAt {A:Around}{s:Shared}{x:V}{v:Value}(rx:RelV x v)(fx:flatV x=true):∀ {xs:List V} {us:List Value},Vals xs us->xs.all flatV=true->∀ u∈us,SeqAt.EqAt A s u v (eqU x u):=by
 intro xs us h
 induction h with
 | nil=>exact fun _ u hu=>by cases hu
 | cons r t ih=>
  intro f u' hu
  rw[List.all_cons,Bool.and_eq_true] at f
  rcases List.mem_cons.mp hu with rfl | hu
  ·rw[eqU_of r f.1];exact eqAt_V r rx f.1 fx
  ·exact ih f.2 u' hu
theorem call_len_seq:CallR X (.builtin "len") (fun xs H Q=>∃ p ys,xs=[.ref p]∧(SqL X.K H p ys∨SqT X.K H p ys)∧Q (.int ys.length) H):=by
 intro pins s σ H xs us Q I r h
 revert h
 refine fun zqq=>?_;obtain⟨p,ys,zq2,hq,q⟩:=zqq
 subst zq2
 obtain⟨u,zq1,rx⟩:=vals1 r
 subst zq1
 cases rx
 have hn:=line63
 rcases hq with hq | hq
 ·obtain⟨its,r',pl,hz⟩:=I.list hq
  have hlen:=r'.length
  exact Calls.call_len_list pl.isList (by simp only[List.size_toArray] <;> omega) ⟨.int ys.length,H,I.tok _,⟨s.toks+1,by rw[List.size_toArray,hlen]⟩,q⟩
 ·obtain⟨its,r',pl,hz⟩:=I.tuple hq
  have hlen:=r'.length
  exact len_tuple pl (by simp only[List.size_toArray] <;> omega) ⟨.int ys.length,H,I.tok _,⟨s.toks+1,by rw[List.size_toArray,hlen]⟩,q⟩
theorem CallR.or {f:Value}{r r':List V->Hp->VK->Prop}(h:CallR X f r)(h':CallR X f r'):CallR X f (fun xs H Q=>r xs H Q∨r' xs H Q):=by
 intro pins s σ H xs us Q I rs q
 rcases q with q | q
 ·exact h pins s σ H xs us Q I rs q
 ·exact h' pins s σ H xs us Q I rs q
theorem call_list_of:CallR X (.type "list") (fun xs H Q=>∃ p ys,xs=[.ref p]∧(SqL X.K H p ys∨SqT X.K H p ys)∧∀ l,H l=none->Q (.ref l) (upd H l (.lst ys))):=by
 intro pins s σ H xs us Q I r h
 revert h
 refine fun zqq=>?_;obtain⟨p,ys,zq2,hq,q⟩:=zqq
 subst zq2
 obtain⟨u,zq1,rx⟩:=vals1 r
 subst zq1
 cases rx
 have fin:∀ (its:List Value),Vals ys its->ys.length≤sizeLine->∀ (h':Heap) (c':Nat),(∀ b o',s.heap.get? b=some o'->h'.get? b=some o') ->
   h'.get? s.heap.objs.size=some { cls:=.type "list",dict:=none,data:=.seq its.toArray c',slots:=#[] }->EP X pins σ Q (.ref s.heap.objs.size) { s with heap:=h' }:=fun its r' hz h' c' kp e=>
  ⟨.ref s.heap.objs.size,_,I.laid (t':=s.toks) kp (Nat.le_refl _) (show ObjOk X.prog X.w _ h' _ (.lst ys) from ⟨hz,its,c',r',e⟩),rfl,q _ (I.hok.fresh (Nat.le_refl _))⟩
 rcases hq with hq | hq
 ·obtain⟨its,r',pl,hz⟩:=I.list hq
  have hlen:=r'.length
  obtain⟨o,ho,hc,n,hd⟩:=pl.isList
  exact call_list_seq p (.inl rfl) ho hc hd (fun h' c' kp e=>fin its r' hz h' c' kp e) (by simp only[List.size_toArray] <;> omega)
 ·obtain⟨its,r',pl,hz⟩:=I.tuple hq
  have hlen:=r'.length
  obtain⟨o,ho,hc,n,hd⟩:=id (pl)
  exact call_list_seq p (.inr rfl) ho hc hd (fun h' c' kp e=>fin its r' hz h' c' kp e) (by simp only[List.size_toArray] <;> omega)
def tyV (K:PySem.W.Frag)(T:String)(x:V)(H:Hp):Prop:=match x with
 | .str _=>T="str"
 | .int _=>T="int"
 | .ref p=>(T="list"∧∃ xs,SqL K H p xs)∨(T="tuple"∧∃ o,K.lookup p=some o∧o.cls=.type "tuple"∧o.dict=none) ∨
  (T="dict"∧((∃ kvs,H p=some (.dK kvs))∨∃ kvs,H p=some (.dT kvs)))∨(T="set"∧∃ S n,H p=some (.set S n))
 | _=>False
theorem tyV_is {pins:List (Addr×Obj)}{σ:St}{H:Hp}{s:Shared}{T:String}{x:V}{v:Value}(I:Inv X pins σ H s)(r:RelV x v)(ty:tyV X.K T x H) :
  s.TypeIs v T∧∀ a,v=.ref a->∃ ob,s.heap.get? a=some ob∧ob.dict=none:=by
 cases x with
 | str z=>
  revert r
  refine fun zqq=>?_;obtain⟨t,zq1⟩:=zqq
  subst zq1
  cases (show T="str" from ty)
  exact⟨typeIs_str s z t,fun _ e=>nomatch e⟩
 | int i=>
  revert r
  refine fun zqq=>?_;obtain⟨t,zq1⟩:=zqq
  subst zq1
  cases (show T="int" from ty)
  exact⟨typeIs_int s i t,fun _ e=>nomatch e⟩
 | ref p=>
  cases r
  rcases ty with ⟨rfl,xs,hq⟩ | ⟨rfl,o,hk,hc,hd⟩ | ⟨rfl,hk⟩ | ⟨rfl,S,n,hk⟩
  ·obtain⟨its,_,pl,_⟩:=I.list hq
   refine⟨pl.isList.typeIs,fun a e=>?_⟩
   cases e
   obtain⟨o,n,e,c,hd,_⟩:=id (pl)
   exact⟨o,e,hd⟩
  ·refine⟨⟨o,I.kIn p o hk,hc⟩,fun a e=>?_⟩
   cases e
   exact⟨o,I.kIn _ o hk,hd⟩
  ·have z:∃ o,s.heap.get? p=some o∧o.ExactDict:=by
    rcases hk with ⟨kvs,hk⟩ | ⟨kvs,hk⟩
    ·obtain⟨_,_,_,_,o,_,_,e,ex,_⟩:=I.hok p _ hk
     exact⟨o,e,ex⟩
    ·obtain⟨_,_,_,_,o,_,_,e,ex,_⟩:=I.hok p _ hk
     exact⟨o,e,ex⟩
   obtain⟨o,e,ex⟩:=id (z)
   refine⟨⟨o,e,ex.1⟩,fun a e2=>?_⟩
   cases e2
   exact⟨o,e,ex.2.1⟩
  ·obtain⟨o,_,_,_,e,ex,_⟩:=I.hok p _ hk
   refine⟨⟨o,e,ex.1⟩,fun a e2=>?_⟩
   cases e2
   exact⟨o,e,ex.2.1⟩
 | _=>exact False.elim ty
def tBM0 (K:PySem.W.Frag)(T:String)(r:V->List V->Hp->VK->Prop)(to:TE):TE:=fun σ H Q=>to σ H fun x H1=>tyV K T x H1∧r x [] H1 Q
def tBM (K:PySem.W.Frag)(T:String)(r:V->List V->Hp->VK->Prop)(to:TE)(t:TA):TE:=fun σ H Q=>to σ H fun x H1=>tyV K T x H1∧t σ H1 fun xs H2=>r x xs H2 Q
variable {o e:Expr}{es:List Expr}{to:TE}{t:TA}{name:Str}{apos cpos:Pos}{T id:String}{r:V->List V->Hp->VK->Prop}
theorem pe_bm0 (pa:PlainAttrs T)(slot:Slot T name id)(hty:typeOf (.builtin id)=pure (.type "method_descriptor"))(hm:MtR X id r)(ho:PE X o to)
  (hbase:attributeBase o name X.env (eval o X.env)=eval o X.env:=by rfl) (hline:(apos.endLine==cpos.line)=true:=by rfl):PE X (.Call (.Attribute o name apos) [] [] cpos) (tBM0 X.K T r to):=by
 intro pins s σ H Q I h
 refine wpAny_Call_method0_late hbase hline (thn (ho pins s σ H _ I h) fun v s1 zpat=>?_)
 obtain⟨x,H1,I1,r1,ty,q1⟩:=zpat
 obtain⟨h1,h2⟩:=tyV_is I1 r1 ty
 exact ⟨T,id,pa,slot,hty,h1,h2,Calls.callWith_builtin rfl (PySem.evalArgs_none (hm pins s1 σ H1 x [] v [] Q I1 r1 .nil q1))⟩
theorem pe_bm (pa:PlainAttrs T)(slot:Slot T name id)(hty:typeOf (.builtin id)=pure (.type "method_descriptor"))(hm:MtR X id r)(ho:PE X o to)(ha:PA X (e::es) t)
  (hbase:attributeBase o name X.env (eval o X.env)=eval o X.env:=by rfl)
  (hfew:((backTo cpos (starEach (e::es) X.env)).all (fun x=>!x.1)&&(backToKw cpos (keywordEach [] X.env)).all (fun x=>x.1.isSome)
   &&decide ((e::es).length+([]:List Keyword).length+(if ([]:List Keyword).isEmpty then 0 else 1)<30))=true:=by rfl)
  (hline:(apos.endLine==cpos.line)=true:=by rfl) (hs:starEach (e::es) X.env=(false,eval e X.env)::starEach es X.env:=by rfl) (hplain:(backTo cpos (starEach es X.env)).any (·.1)=false:=by rfl) :
  PE X (.Call (.Attribute o name apos) (e::es) [] cpos) (tBM X.K T r to t):=by
 intro pins s σ H Q I h
 refine wpAny_Call_method_late hbase hfew hline rfl (thn (ho pins s σ H _ I h) fun v s1 zpat=>?_)
 obtain⟨x,H1,I1,r1,ty,q1⟩:=zpat
 obtain⟨h1,h2⟩:=tyV_is I1 r1 ty
 refine ⟨T,id,pa,slot,hty,h1,h2,?_⟩
 have hA:=ha cpos pins s1 σ H1 _ I1 q1
 rw[hs] at hA ⊢
 refine Calls.callWith_builtin (by show (false||(backTo cpos (starEach es X.env)).any (·.1))=false;rw[hplain] <;> rfl) (Calls.evalArgs_plain ?_)
 exact thn hA fun us s2 ⟨vs,H2,I2,r2,q2⟩=>hm pins s2 σ H2 x vs v us Q I2 r1 r2 q2
end
end L2
namespace L2
def MtM (X:Cx)(id:String)(r:V->List V->Hp->VK->Prop):Prop:=
 ∀ (pins:List (Addr×Obj)) (s:Shared) (σ:St) (H:Hp) (x:V) (xs:List V) (v:Value) (us:List Value) (Q:VK),Inv X pins σ H s->RelV x v->Vals xs us->r x xs H Q ->
  wpAny (model X.prog X.w) X.A (call (.builtin id) (v::us)) (EP X pins σ Q) X.xe s
theorem Vals.one {x:V}{us:List Value}(h:Vals [x] us):∃ u,us=[u]∧RelV x u:=by
 cases h with
 | cons r t=>cases t;exact⟨_,rfl,r⟩
theorem Vals.two {x y:V}{us:List Value}(h:Vals [x,y] us):∃ u v,us=[u,v]∧RelV x u∧RelV y v:=by
 cases h with
 | cons r t=>
  obtain⟨u,zq1,q⟩:=Vals.one t
  subst zq1
  exact ⟨_,_,rfl,r,q⟩
theorem Vals.zero:∀ {us:List Value},Vals [] us->us=[]
 | _,.nil=>rfl
theorem Vals.dropLast {xs:List V}{us:List Value}(h:Vals xs us):Vals xs.dropLast us.dropLast:=by
 induction h with
 | nil=>exact .nil
 | cons r t ih=>
  cases t with
  | nil=>exact .nil
  | cons q t'=>exact .cons r ih
theorem Vals.eraseIdx:∀ {xs:List V} {us:List Value} (i:Nat),Vals xs us->Vals (xs.eraseIdx i) (us.eraseIdx i)
 | _,_,_,.nil=>.nil
 | _,_,0,.cons _ t=>t
 | _,_,i+1,.cons r t=>.cons r (Vals.eraseIdx i t)
theorem Vals.reverse {xs:List V}{us:List Value}(h:Vals xs us):Vals xs.reverse us.reverse:=by
 induction h with
 | nil=>exact .nil
 | cons r t ih=>rw[List.reverse_cons,List.reverse_cons];exact Vals.append ih (.cons r .nil)
theorem erase_last {α:Type}(l:List α):l.eraseIdx (l.length - 1)=l.dropLast:=by
 induction l with
 | nil=>rfl
 | cons a r ih=>
  cases r with
  | nil=>rfl
  | cons b r=>
   have e:(a::b::r).length - 1=((b::r).length - 1)+1:=rfl
   rw[e,List.eraseIdx_cons_succ,ih]
   all_goals rfl
section
variable {X:Cx}{pins:List (Addr×Obj)}{σ:St}{H:Hp}{s:Shared}{l b:Addr}{xs ys zs:List V}
theorem Inv.lset {its its':List Value}{n:Nat}{f:Array Value->Array Value}{t':Nat}(I:Inv X pins σ H s)(hH:H l=some (.lst xs))
  (e:s.heap.get? l=some { cls:=.type "list",data:=.seq its.toArray n }) (hf:f its.toArray=its'.toArray) (hv:Vals ys its') (hz:ys.length≤sizeLine) :
  Inv X pins σ (upd H l (.lst ys)) { s with heap:=s.heap.update l (Obj.mapSeq f),toks:=t' }:=by
 have q:=PySem.IsL.update e f
 rw[hf] at q
 refine I.write (x:=l) (e:=l) (by rw[hH];exact trivial) (.inl rfl) (fun b' u hb hu=>(Heap.get?_update_other s.heap (Obj.mapSeq f) (Ne.symm hb)).trans hu) ⟨_,q⟩ ?_
 exact ⟨hz,its',_,hv,q⟩
theorem Inv.lnew {its:List Value}{t':Nat}(I:Inv X pins σ H s)(hv:Vals ys its)(hz:ys.length≤sizeLine) :
  Inv X pins σ (upd H s.heap.objs.size (.lst ys)) { s with heap:=s.heap.push { cls:=.type "list",data:=.seq its.toArray },toks:=t' }:=
 I.laid (fun _ _ q=>Heap.get?_push_of_some _ q) (Nat.le_refl _) ⟨hz,its,0,hv,Heap.get?_push_size _ rfl⟩
theorem Inv.fresh (I:Inv X pins σ H s):H s.heap.objs.size=none:=I.hok.fresh (Nat.le_refl _)
theorem Inv.lstM (I:Inv X pins σ H s)(hH:H l=some (.lst xs)):xs.length≤sizeLine∧∃ (its:List Value) (n:Nat),Vals xs its∧xs.length=its.length∧s.heap.get? l=some { cls:=.type "list",data:=.seq its.toArray n }:=by
 obtain⟨z,its,n,r,e⟩:=I.hok l _ hH
 exact ⟨z,its,n,r,r.length,e⟩
theorem notLongL {n:Nat}(h:n≤sizeLine):Builtin.List.listTooLong n=false:=by
 unfold Builtin.List.listTooLong
 exact decide_eq_false (by omega)
end
section
variable {X:Cx}
def rAppend:V->List V->Hp->VK->Prop:=fun x vs H Q=>∃ l xs y,x=.ref l∧vs=[y]∧H l=some (.lst xs)∧xs.length<sizeLine∧Q .non (upd H l (.lst (xs++[y])))
theorem mt_append:MtM X "list.append" rAppend:=by
 intro pins s σ H x vs v us Q I rx rv h
 revert h
 refine fun zqq=>?_;obtain⟨l,xs,y,zq3,zq4,hH,hz,q⟩:=zqq
 subst zq3
 subst zq4
 cases rx
 obtain⟨u,zq1,ru⟩:=rv.one
 subst zq1
 obtain⟨z,its,n,r,hl,e⟩:=I.lstM hH
 refine call_meets F.slot_list_append ⟨_,e,rfl⟩ F.entry_list_append (F.args_list_append_2 _ _) (PySem.list_append l its.toArray n u (by rw[List.size_toArray];omega)) ⟨e,?_⟩
 refine⟨.non,_,I.lset (its':=its++[u]) hH e (by simp) (r.append (.cons ru .nil)) ?_,rfl,q⟩
 rw[List.length_append,List.length_singleton]
 omega
def rExtend:V->List V->Hp->VK->Prop:=fun x vs H Q=>∃ l b xs zs,x=.ref l∧vs=[.ref b]∧H l=some (.lst xs)∧H b=some (.lst zs)∧xs.length+zs.length≤sizeLine∧Q .non (upd H l (.lst (xs++zs)))
theorem mt_extend:MtM X "list.extend" rExtend:=by
 intro pins s σ H x vs v us Q I rx rv h
 revert h
 refine fun zqq=>?_;obtain⟨l,b,xs,zs,zq4,zq5,hH,hB,hz,q⟩:=zqq
 subst zq4
 subst zq5
 cases rx
 obtain⟨u,zq1,ru⟩:=rv.one
 subst zq1
 cases ru
 obtain⟨z,its,n,r,hl,e⟩:=I.lstM hH
 obtain⟨z2,its2,n2,r2,hl2,e2⟩:=I.lstM hB
 have hsz:its.toArray.size+its2.toArray.size≤sizeLine:=by rw[List.size_toArray,List.size_toArray];omega
 have hlong:¬ (!its.toArray.isEmpty&&Builtin.List.listTooLong (its.toArray.size+its2.toArray.size))=true:=by
  rw[notLongL hsz,Bool.and_false]
  exact Bool.false_ne_true
 refine call_meets F.slot_list_extend ⟨_,e,rfl⟩ F.entry_list_extend (F.args_list_extend_2 _ _)
  (AutoSeq1.list_extend_list_list_0 l its.toArray n b its2.toArray n2 hlong (by rw[List.size_toArray];omega) (by omega)) ⟨e,e2,?_⟩
 refine⟨.non,_,I.lset (its':=its++its2) hH e (by simp) (r.append r2) ?_,rfl,q⟩
 rw[List.length_append]
 omega
def rPop:V->List V->Hp->VK->Prop:=fun x vs H Q=>∃ l xs y,x=.ref l∧vs=[]∧H l=some (.lst xs)∧xs[xs.length - 1]?=some y∧Q y (upd H l (.lst xs.dropLast))
theorem mt_pop:MtM X "list.pop" rPop:=by
 intro pins s σ H x vs v us Q I rx rv h
 revert h
 refine fun zqq=>?_;obtain⟨l,xs,y,zq3,zq4,hH,hy,q⟩:=zqq
 subst zq3
 subst zq4
 cases rx
 have hus:=rv.zero
 subst hus
 obtain⟨z,its,n,r,hl,e⟩:=I.lstM hH
 obtain⟨u,hu,ru⟩:=r.get hy
 have hy':its.toArray[its.toArray.size - 1]?=some u:=by
  show its.toArray[its.length - 1]?=some u
  rw[← Array.getElem?_toList,← hl]
  exact hu
 refine call_meets F.slot_list_pop ⟨_,e,rfl⟩ F.entry_list_pop (F.args_list_pop_1 _) (MeetsSeq.list_pop_last l its.toArray n u hy' (by rw[List.size_toArray];omega)) ⟨e,?_⟩
 refine⟨y,_,I.lset (its':=its.dropLast) hH e ?_ r.dropLast ?_,ru,q⟩
 ·show its.toArray.eraseIdxIfInBounds (its.toArray.size - 1)=its.dropLast.toArray
  rw[List.size_toArray,List.eraseIdxIfInBounds_toArray,erase_last]
 ·rw[List.length_dropLast]
  omega
end
section
variable {prog:Program}{w:World}{A:Around}{E:Value->Shared->Prop}{s:Shared}
end
section
variable {X:Cx}
end
end L2
namespace Att
open PySem PySem.W PySem.Calls PyProof.Rows
theorem ints_of_wellAll {P:Params}{h:Heap}:∀ (ns:List Int) (vs:List Value),WellAll P h vs (ns.map WData.int)->IntsAre vs ns:=by
 intro ns
 induction ns with
 | nil=>
  intro vs w
  rw[List.map_nil] at w
  cases w
  exact .nil
 | cons n ns ih=>
  intro vs w
  rw[List.map_cons] at w
  cases w with
  | cons a b=>
   cases a
   exact .cons _ _ (ih _ b)
theorem script_of {l:OpenLaw}{n:Nat}(hn:l.most=some n){P:Params}{h:Heap}{args:List WData}{vals:List Value}
  (hpre:l.row.toRowW.claim.pre args=true) (hwl:WellAll P h vals args) :
  ∃ a vs ns,vals=[Value.ref a]∧args=[WData.list (ns.map WData.int)]∧h.get? a=some { cls:=.type "list",data:=.seq vs.toArray }∧IntsAre vs ns∧ns.length≤n:=by
 have hsh:WShape.hasAll [] args [.list .int]=true:=(pre_splitW hpre).1
 have hc:l.pre.holds [] { args:=args }=true:=(pre_splitW hpre).2
 obtain⟨d,r,zq2,h1,h2⟩:=hasAllW_cons hsh
 subst zq2
 obtain rfl:=hasAllW_nil h2
 obtain⟨xs,zq1,h3⟩:=hasW_list h1
 subst zq1
 obtain⟨ns,zq1⟩:=items_int h3
 subst zq1
 have hlen:ns.length≤n:=by
  unfold OpenLaw.pre at hc
  have h4:(WTm.not (.lt (.lit (.int (n:Int))) (.len (.arg 0)))).holds [] { args:=[.list (ns.map .int)] }=true:=by
   have h4:=(holds_andW hc).1
   rw[hn] at h4
   exact h4
  have h5:=condW_of h4 (w_not (w_lt w_lit (w_len_list (w_arg rfl))))
  rw[List.length_map] at h5
  refine Nat.le_of_not_lt fun q=>?_
  have q':(n:Int)<((ns.length:Nat):Int):=by omega
  first
   | (rw[decide_eq_true q'] at h5;exact absurd h5 (by decide))
   | (simp at h5;omega)
 cases hwl with
 | cons w1 w2=>
  cases w2
  cases w1 with
  | list ho hall=>exact⟨_,_,ns,rfl,rfl,ho,ints_of_wellAll ns _ hall,hlen⟩
theorem post_true (l:OpenLaw)(args:List WData):l.row.toRowW.claim.post args (.bool true) args=true:=
 postW_of (r:=l.row.toRowW) (X:=(true==true))
  (show WShape.has [] (.bool true) .bool=true by first | rfl | decide | simp[WShape.has,WShape.arms,WShape.armsAll])
  (show (WTm.eq .res (.lit (.bool true))).value [] { args:=args,res:=some (.bool true),after:=args }=some (.bool (true==true)) from w_eq_bool (w_res rfl) w_lit) rfl
theorem attach_call {l:OpenLaw}{n:Nat}{q:Program}{loose:List Str}{XP:(Str->Option Value)->Heap->Prop}{YP:World->Heap->Prop}{d:DefRec}
  (hn:l.most=some n) (hdf:d.params.defaults=[])
  (call:∀ (w:World) (s₀ s₁:Shared) (mg mb:Str->Option Value) (fa:Addr) (o:Obj) (pm cd doc:Value) (a:Addr) (vs:List Value) (ns:List Int),
   Ground q loose [] XP w s₀ mg mb s₁.heap->YP w s₁.heap ->
   s₁.heap.get? fa=some o->o.data=.func (docDef d.name d.params d.body d.scope pm cd doc)->s₁.heap.CodeRec cd d.name->mg d.name=some (.ref fa) ->
   s₁.heap.get? a=some { cls:=.type "list",data:=.seq vs.toArray }->IntsAre vs ns->ns.length≤n->s₁.gens=#[] ->
   codeAny (model l.prog w) callerA (.call (.ref fa) ⟨[.ref a],[]⟩) (fun r s'=>r=.ok (.ret (.bool true))∧OldK s₁.heap s'.heap∧s'.os=s₁.os∧AllBare s'.gens) s₁) :
  WalkO q loose XP YP l.row.toRowW d [] (fun f vs=>PySem.call f vs):=by
 intro w s₀ s₁ mg mb G Y fa o pm cd doc dV kV ho hd hcd hD hmg hg args vals as hpre hlay hrd hwl hlo
 obtain rfl:dV=.none:=Dflts.none hD hdf
 obtain rfl:kV=.none:=Dflts.noKw hD
 obtain⟨a,vs,ns,zq3,zq4,hobj,hints,hlen⟩:=script_of hn hpre hwl
 subst zq3
 subst zq4
 refine enter_call (codeAny_mono (call w s₀ s₁ mg mb fa o pm cd doc a vs ns G Y ho (fd_plain hd) hcd hmg hobj hints hlen hg) fun r s' hq=>?_)
 revert hq
 refine fun zqq=>?_;obtain⟨zq0,h2,h3,h4⟩:=zqq
 subst zq0
 exact⟨.inl ⟨.bool true,.bool true,[],rfl,fun _=>rfl,.bool true,post_true l _,fun _=>⟨List.Pairwise.nil,fun _ hm=>(nomatch hm)⟩⟩,h2,h3,h4⟩
section
variable {prog:Program}{w:World}{A:Around}{E:Value->Shared->Prop}{s:Shared}{K:Frag}
end
end Att
namespace L2
theorem vals_ints {vs:List Value}{ns:List Int}(h:IntsAre vs ns):Vals (ns.map V.int) vs:=by
 induction h with
 | nil=>exact .nil
 | cons n t h ih=>exact .cons ⟨t,rfl⟩ ih
end L2
namespace L2
abbrev KOf {K:PySem.W.Frag}{h:Heap}(_:K.In h):PySem.W.Frag:=K
end L2
namespace L2
def defArgs (s:Stmt):Arguments:=match s with
 | .FunctionDef _ a _ _ _ _ _ _ _ _=>a
 | _=>{ posonlyargs:=[],args:=[],vararg:=none,kwonlyargs:=[],kw_defaults:=[],kwarg:=none,defaults:=[] }
def defBody (s:Stmt):List Stmt:=match s with
 | .FunctionDef _ _ b _ _ _ _ _ _ _=>b
 | _=>[]
def defScope (s:Stmt):Scope:=match s with
 | .FunctionDef _ _ _ _ _ _ sc _ _ _=>sc
 | _=>{ kind:=.function,names:=[],isGenerator:=false,isCoroutine:=false }
abbrev CX0:CXT:=fun _ _ _ _ _ _=>False
abbrev E0:XK:=fun _ _ _=>False
theorem pass0 {X:Cx}:Passes CX0 X E0:=fun _ _ _ _ _ _ _ h=>h.elim
structure Fun (K:PySem.W.Frag)(x qual:Str)(st:Stmt)(f:Addr)(fd:FuncData):Prop where
 ex:∃ (oc:Value) (od:Option Addr) (kV doc pm:Value) (an:Option Addr) (cdv ct:Value) (osl:Array (Option Value)),
  fd=PySem.W.fnOf x qual (defArgs st) (defBody st) (defScope st) .none kV doc pm an cdv ct∧K.lookup f=some ⟨oc,od,.func fd,osl⟩∧PySem.W.codeIn K cdv qual=true
 kp:PySem.W.keepIn K (.ref f)=true
section
variable {P:Program}{w:World}{K:PySem.W.Frag}{mg:Str->Option Value}{base:Heap}
theorem Fun.ok {x qual:Str}{st:Stmt}{f:Addr}{fd:FuncData}{N ps:List Str}{k:Nat}{sp:Sp}(F:Fun K x qual st f fd)(S:FnScope N ps (defScope st))(len:∀ vs H Q E,sp vs H Q E->vs.length=ps.length)
  (hbody:∀ (cdv:Value) (A:Around) (outer:List Env) (s:Shared) (H:Hp) (vs:List V) (Q:VK) (E:XK),Room k (A.deeper (envOfC qual (defScope st) s.heap.objs.size f cdv))->sp vs H Q E ->
   ∃ t,PSs (cxOf CX0 P w K mg base N qual (defScope st) f cdv A outer s H E).nox (defBody st) t∧t { nx:=fun _ H'=>Q .non H',rt:=Q } (start N vs) H):FnOk P w K mg base CX0 (k+1) f fd ps sp:=by
 obtain⟨oc,od,kV,doc,pm,an,cdv,ct,osl,zq9,lk,hcd⟩:=F.ex
 subst zq9
 refine fn_of lk hcd S len fun A outer s H vs Q E hr hsp=>?_
 obtain⟨t,h,q⟩:=hbody cdv A outer s H vs Q E hr hsp
 exact⟨t,h.nox,q⟩
theorem Fun.binds {x qual:Str}{st:Stmt}{f:Addr}{fd:FuncData}{ps:List Str}(F:Fun K x qual st f fd)
  (h:∀ (kV doc pm:Value) (an:Option Addr) (cdv ct:Value) (us:List Value),us.length=ps.length->bindArgs (PySem.W.fnOf x qual (defArgs st) (defBody st) (defScope st) .none kV doc pm an cdv ct) ⟨us,[]⟩=pure (ps.zip us)):Binds K fd ps []:=by
 obtain⟨oc,od,kV,doc,pm,an,cdv,ct,osl,zq9,lk,hcd⟩:=F.ex
 subst zq9
 exact .all (h kV doc pm an cdv ct)
theorem fun_mk {x qual:Str}{st:Stmt}{f:Addr}{oc:Value}{od an:Option Addr}{osl:Array (Option Value)}{kV doc pm cdv ct:Value}(l:K.lookup f=some ⟨oc,od,.func (PySem.W.fnOf x qual (defArgs st) (defBody st) (defScope st) .none kV doc pm an cdv ct),osl⟩)
 (c:PySem.W.codeIn K cdv qual=true) (k:PySem.W.keepIn K (.ref f)=true):Fun K x qual st f (PySem.W.fnOf x qual (defArgs st) (defBody st) (defScope st) .none kV doc pm an cdv ct):=⟨⟨oc,od,kV,doc,pm,an,cdv,ct,osl,rfl,l,c⟩,k⟩
end
section
variable {X:Cx}
theorem pv (i:Nat){x:Str}{pos:Pos}(hN:X.N[i]?=some x:=by rfl)(hv:Vis X.env.scope x:=by first | exact Or.inl rfl | exact Or.inr (Or.inl rfl) | exact Or.inr (Or.inr rfl))(hd:(x==("__debug__":Str))=false:=by decide)
 (hcd:(x==("__classdict__":Str))=false:=by decide):PE X (.Name x pos) (tVar i):=pe_var hN hv hd hcd
end
def Same (H H':Hp):Prop:=∀ b o,H b=some o->H' b=some o
theorem Same.refl (H:Hp):Same H H:=fun _ _ h=>h
theorem Same.trans {H H1 H2:Hp}(a:Same H H1)(b:Same H1 H2):Same H H2:=fun c o h=>b c o (a c o h)
theorem Same.free {H H':Hp}(e:Same H H'){l:Addr}(h:H' l=Option.none):H l=Option.none:=by
 cases q:H l with
 | none=>rfl
 | some o=>
  rw[e l o q] at h
  exact L2.no_sn h
theorem Same.seq {K:PySem.W.Frag}{H H':Hp}{a:Addr}{xs:List V}(e:Same H H')(h:SqL K H a xs):SqL K H' a xs:=by
 rcases h with (h | ⟨o,h⟩) | h
 ·exact .inl (.inl (e _ _ h))
 ·exact .inl (.inr ⟨o,e _ _ h⟩)
 ·exact .inr h
end L2
set_option maxHeartbeats 4000000
namespace L2
def TabAt (P:Program)(K:PySem.W.Frag)(p:Addr):Prop:=∃ x c,x∈lamNames P∧PySem.W.tabIn K x=some (c,p)
open Classical in
theorem law_callT {P:Program}{w:World}{K:PySem.W.Frag}{mg mb:Str->Option Value}{CX:CXT}{k:Nat}{fa a:Addr}{fd:FuncData}{x:Str}{sp:Sp}{s₁:Shared}{vs:List Value}{ns:List Int}
  (KX:K.In s₁.heap) (hns:s₁.heap.Ns mainGlobals mg) (hb:s₁.heap.Ns builtinsNs mb) (hbb:∀ x:Str,x≠"__name__"->mb x=bootBuiltins x) (hlim:s₁.heap.NoLimit) (hg:s₁.gens=#[])
  (ha:s₁.heap.get? a=some { cls:=.type "list",data:=.seq vs.toArray }) (hi:IntsAre vs ns) (hl:ns.length≤sizeLine) (hr:Room k callerA)
  (hT:∀ x c p,x∈lamNames P->PySem.W.tabIn K x=some (c,p)->PySem.W.CodeHd s₁.heap c p∧s₁.heap.get? p=some (PySem.W.tabObj #[])) (hTK:∀ x c p,x∈lamNames P->PySem.W.tabIn K x=some (c,p)->K.lookup p=none)
  (hBm:∃ bm ob,mg "__builtins__"=some (.ref bm)∧bm≠builtinsNs∧s₁.heap.get? bm=some ob∧ob.cls=.type "module"∧ob.dict=some builtinsNs∧ob.data=.plain)
  (F:∀ base:Heap,K.In base->base.Ns mainGlobals mg->FnOk P w K mg base CX k fa fd [x] sp) (hbind:∀ (s:Shared) (u:Value),BindsTo s fd ⟨[u],[]⟩ [(x,u)])
  (hsp:∀ H:Hp,SqL K H a (ns.map V.int)->sp [.ref a] H (fun v _=>v=.bl true) fun _ _ _=>False)
  (hCX:∀ H e s',CX [] H s₁ (fun _ _ _=>False) e s'->False) :
  codeAny (model P w) callerA (.call (.ref fa) ⟨[.ref a],[]⟩) (fun r s'=>r=.ok (.ret (.bool true))∧OldK s₁.heap s'.heap∧s'.os=s₁.os∧AllBare s'.gens) s₁:=by
 have rv:=vals_ints hi
 have lenV:=hi.length
 have objT:∀ {b:Addr},TabAt P K b->s₁.heap.get? b=some (PySem.W.tabObj #[]):=fun {b} ⟨y,c,h1,h2⟩=>(hT y c b h1 h2).2
 have aT:¬ TabAt P K a:=fun z=>by have q:=objT z;rw[ha] at q;cases q
 have core:∀ H:Hp,SqL K H a (ns.map V.int)->HOk P w H s₁.heap->(∀ b u,H b=some u->(b=a∧∃ o xs,u=.frz o (.lst xs))∨(u=.tab∧TabAt P K b))->(∀ b,TabAt P K b->H b=some .tab)->(H a≠none->K.lookup a=none) ->
   codeAny (model P w) callerA (.call (.ref fa) ⟨[.ref a],[]⟩) (fun r s'=>r=.ok (.ret (.bool true))∧OldK s₁.heap s'.heap∧s'.os=s₁.os∧AllBare s'.gens) s₁:=by
  intro H hS hok hA hTt hK
  have base_of:∀ {b:Addr} {o:Obj},s₁.heap.get? b=some o->H b=none->(hidT s₁.heap H).get? b=some o:=fun e n=>hidT_get e n
  have free_of:∀ {b:Addr} {o:Obj},s₁.heap.get? b=some o->o≠{ cls:=.type "list",data:=.seq vs.toArray }->o≠PySem.W.tabObj #[]->H b=none:=fun {b o} e n1 n2=>by
   cases q:H b with
   | none=>rfl
   | some u=>
    rcases hA b u q with ⟨rfl,_⟩ | ⟨_,z⟩
    ·rw[ha] at e;exact absurd (Option.some.inj e).symm n1
    ·have:=objT z;rw[e] at this;exact absurd (Option.some.inj this) n2
  have noA:∀ {b:Addr} {o:Obj} {es:Array DictEntry} {ep:Nat},s₁.heap.get? b=some o->o.data=.dict es ep->H b=none:=fun {b o es ep} e d=>free_of e (fun z=>by rw[z] at d;cases d) (fun z=>by rw[z] at d;cases d)
  have nsK:∀ {b:Addr} {m:Str->Option Value},s₁.heap.Ns b m->(hidT s₁.heap H).Ns b m:=fun {b m} ⟨o,es,ep,e,d,r⟩=>⟨o,es,ep,base_of e (noA e d),d,r⟩
  have hKb:K.In (hidT s₁.heap H):=fun b o e=>base_of (KX b o e) (by
   cases q:H b with
   | none=>rfl
   | some u=>
    rcases hA b u q with ⟨rfl,_⟩ | ⟨_,y,c,h1,h2⟩
    ·rw[hK (by rw[q];simp)] at e;cases e
    ·rw[hTK y c b h1 h2] at e;cases e)
  have hM:Mod K mg (hidT s₁.heap H):=⟨hKb,nsK hns,⟨mb,nsK hb,hbb⟩,let ⟨mc,h1,h2⟩:=hlim;⟨mc,nsK h1,h2⟩⟩
  have hTb:TabsOk P K mg (hidT s₁.heap H) H:=fun y c p h1 h2=>by
   have hp:=(hT y c p h1 h2).2
   refine⟨hTt p ⟨y,c,h1,h2⟩,?_,?_⟩
   ·obtain⟨o,vs',file,tf,flags,tg,inF,text,tt,e1,e2,r⟩:=(hT y c p h1 h2).1
    exact ⟨o,vs',file,tf,flags,tg,inF,text,tt,base_of e1 (free_of e1 (fun z=>by rw[z] at e2;exact absurd e2 (by simp)) fun z=>by rw[z] at e2;exact absurd e2 (by simp)),e2,r⟩
   ·obtain⟨bm,ob,b1,b2,b3,b4,b5,b6⟩:=id (hBm)
    refine ⟨bm,ob,b1,b2,(fun q=>?_),(fun q=>?_),base_of b3 (free_of b3 (fun z=>by rw[z] at b4;exact absurd b4 (by simp)) fun z=>by rw[z] at b4;exact absurd b4 (by simp)),b4,b5,b6⟩
    ·obtain⟨o,es,ep,e,hd,_⟩:=id (hns)
     rw[q,e] at b3;cases b3;rw[hd] at b6;cases b6
    ·rw[q,hp] at b3;cases b3;cases b4
  have e0:Env0 P w K mg (hidT s₁.heap H) callerA [] s₁ H:=⟨rfl,hM,fun b o e=>of_hidT e,Nat.le_of_eq (hidT_size _ _),trivial,fun b hb=>absurd (show b∈([]:List Addr) from hb) (by simp),hok,.of_eq hg,hTb⟩
  refine codeAny_mono ((F _ hKb (nsK hns)).run callerA [] s₁ H ⟨[.ref a],[]⟩ [.ref a] [.ref a] _ _ hr e0 (hbind s₁ (.ref a)) (.cons rfl .nil) (hsp H hS)) fun r s' h=>?_
  cases r with
  | error e=>exact (hCX H e s' h).elim
  | ok fl=>
   cases fl with
   | next=>exact False.elim h
   | brk=>exact False.elim h
   | cont=>exact False.elim h
   | ret u=>
    obtain⟨v,H',os,bare,un,hok',r',q⟩:=id (h)
    have q':v=.bl true:=q
    subst q'
    obtain rfl:u=Value.bool true:=r'
    have all:∀ b o,s₁.heap.get? b=some o->asItWas s₁.heap s'.heap b o∧∃ o',s'.heap.get? b=some o':=fun b o e=>by
     cases q:H b with
     | none=>
      have z:=un.keep b o e q (by intro z;exact absurd (show b∈([]:List Addr) from z) (by simp)) (by simp)
      exact⟨.inl z,o,z⟩
     | some u=>
      rcases hA b u q with ⟨_,ob,xs,rfl⟩ | ⟨rfl,y,c,h1,h2⟩
      ·have z2:=un.frzs b ob _ q
       obtain⟨e1,_⟩:=hok b _ q
       obtain⟨e2,_⟩:=hok' b _ z2
       rw[e] at e1;cases e1
       exact⟨.inl e2,o,e2⟩
      ·obtain⟨ps,e2,_⟩:=hok' b _ (un.tabs b q)
       obtain⟨hc,hp⟩:=hT y c b h1 h2
       rw[hp] at e;cases e
       exact⟨.inr (.inl ⟨(hc.tab hp).isCodeTable,rfl,#[],ps,rfl,by rw[e2];simp⟩),_,e2⟩
    exact⟨rfl,⟨fun b o e=>(all b o e).1,fun b o e=>(all b o e).2⟩,os,bare⟩
 have okT:∀ (H:Hp) (b:Addr),TabAt P K b->ObjOk P w H s₁.heap b .tab:=fun H b z=>⟨#[],objT z,trivial,fun pos c q=>by cases q⟩
 cases hk:K.lookup a with
 | some o=>
  have e:=KX a o hk
  rw[ha] at e
  obtain rfl:=Option.some.inj e
  refine core (fun b=>if TabAt P K b then some .tab else none) (.inr ⟨_,vs.toArray,_,hk,rfl,rfl,rfl,by rw[List.size_toArray,lenV];exact hl,by simpa using rv⟩) (fun b u z=>?_) (fun b u z=>?_) (fun b z=>if_pos z) fun z=>absurd (if_neg aT) z
  ·by_cases hb:TabAt P K b
   ·have z':=(if_pos hb).symm.trans z
    obtain rfl:=Option.some.inj z'
    exact okT _ b hb
   ·have z':=(if_neg hb).symm.trans z
    exact L2.no_ns z'
  ·by_cases hb:TabAt P K b
   ·have z':=(if_pos hb).symm.trans z
    obtain rfl:=Option.some.inj z'
    exact .inr ⟨rfl,hb⟩
   ·have z':=(if_neg hb).symm.trans z
    exact L2.no_ns z'
 | none=>
  refine core (fun b=>if b=a then some (.frz { cls:=.type "list",data:=.seq vs.toArray } (.lst (ns.map V.int))) else if TabAt P K b then some .tab else none) (.inl (.inr ⟨{ cls:=.type "list",data:=.seq vs.toArray },if_pos rfl⟩)) (fun b u z=>?_) (fun b u z=>?_) (fun b z=>?_) fun _=>hk
  ·by_cases hb:b=a
   ·have z':=(if_pos hb).symm.trans z
    obtain rfl:=Option.some.inj z'
    subst hb
    exact ⟨ha,(by rw[List.length_map];exact hl),vs,_,rv,ha⟩
   ·have z':=(if_neg hb).symm.trans z
    by_cases hb2:TabAt P K b
    ·have z2:=(if_pos hb2).symm.trans z'
     obtain rfl:=Option.some.inj z2
     exact okT _ b hb2
    ·have z2:=(if_neg hb2).symm.trans z'
     exact L2.no_ns z2
  ·by_cases hb:b=a
   ·have z':=(if_pos hb).symm.trans z
    obtain rfl:=Option.some.inj z'
    exact .inl ⟨hb,_,_,rfl⟩
   ·have z':=(if_neg hb).symm.trans z
    by_cases hb2:TabAt P K b
    ·have z2:=(if_pos hb2).symm.trans z'
     obtain rfl:=Option.some.inj z2
     exact .inr ⟨rfl,hb2⟩
    ·have z2:=(if_neg hb2).symm.trans z'
     exact L2.no_ns z2
  ·have hb:b≠a:=fun e=>aT (e▸z)
   rw[if_neg hb,if_pos z]
theorem walk_ofT {l:PySem.W.OpenLaw}{n k:Nat}{q:Program}{loose:List Str}{XP:(Str->Option Value)->Heap->Prop}{YP:World->Heap->Prop}{d:DefRec}{K:Params->PySem.W.Frag}{CX:World->CXT}{sp:World->Sp}{x:Str}
  (hn:l.most=some n) (hn2:n≤sizeLine) (hdf:d.params.defaults=[]) (hr:Room k callerA)
  (hY:∀ (w:World) (h:Heap),YP w h->(K w.params).In h)
  (hq:∀ y∈lamNames l.prog,((recsOf q).find? fun e=>e.name==y).isSome=true) (hTK:∀ (w:World) (y:Str) (c p:Addr),y∈lamNames l.prog->PySem.W.tabIn (K w.params) y=some (c,p)->(K w.params).lookup p=none)
  (F:∀ (w:World) (mg:Str->Option Value) (fa:Addr) (h:Heap),(K w.params).In h->h.Ns mainGlobals mg->mg d.name=some (.ref fa) ->
   ∃ fd:FuncData,(∀ (s:Shared) (u:Value),BindsTo s fd ⟨[u],[]⟩ [(x,u)]) ∧
    ∀ base:Heap,(K w.params).In base->base.Ns mainGlobals mg->FnOk l.prog w (K w.params) mg base (CX w) k fa fd [x] (sp w))
  (hsp:∀ (w:World) (H:Hp) (a:Addr) (ns:List Int),ns.length≤n->SqL (K w.params) H a (ns.map V.int)->sp w [.ref a] H (fun v _=>v=.bl true) fun _ _ _=>False)
  (hCX:∀ (w:World) (H:Hp) (s:Shared) (e:Value) (s':Shared),CX w [] H s (fun _ _ _=>False) e s'->False) :
  PySem.W.WalkO q loose XP YP l.row.toRowW d [] (fun f vs=>PySem.call f vs):=by
 refine Att.attach_call hn hdf fun w s₀ s₁ mg mb fa o pm cd doc a vs ns G Y ho hd hcd hmg hobj hints hlen hg=>?_
 have KX:=hY w _ Y
 obtain⟨fd,hb,hF⟩:=F w mg fa _ KX G.T.g hmg
 refine law_callT KX G.T.g G.T.b G.T.builtins G.T.nolimit hg hobj hints (Nat.le_trans hlen hn2) hr (fun y c p h1 h2=>?_) (hTK w) G.T.bmain hF hb (fun H hS=>hsp w H a ns hlen hS) fun H e s'=>hCX w H s₁ e s'
 obtain⟨r,hr'⟩:=Option.isSome_iff_exists.mp (hq y h1)
 exact PySem.W.tab_of G.T KX hr' h2
end L2
namespace L2
end L2
namespace L2
theorem forIn_pureStep {α β:Type}{f:α->β->Sem (ForInStep β)}{g:β->α->β}:∀ (l:List α) (b:β),(∀ x∈l,∀ b,f x b=pure (ForInStep.yield (g b x)))->forIn l b f=(pure (l.foldl g b):Sem β)
 | [],b,_=>rfl
 | x::r,b,h=>by
  rw[List.forIn_cons,h x List.mem_cons_self b]
  simp only[pure_bind,List.foldl_cons]
  exact forIn_pureStep r (g b x) fun y hy=>h y (List.mem_cons_of_mem _ hy)
def cloStep (env:Env)(b:List (Str×Addr))(x:Str×NameKind):List (Str×Addr):=if x.2==.free then (x.1,(env.cells.lookup x.1).getD 0)::b else b
def cloOf (scope:Scope)(env:Env):List (Str×Addr):=scope.names.foldl (cloStep env) []
theorem closure_is {scope:Scope}{env:Env}(h:∀ x∈scope.names,x.2=.free->∃ c,env.cells.lookup x.1=some c):closureFor scope env=pure (cloOf scope env):=by
 simp only[closureFor]
 rw[forIn_pureStep (g:=cloStep env) scope.names [] ?_]
 ·rfl
 ·rintro⟨n,k⟩ hx b
  unfold cloStep
  by_cases hk:(k==NameKind.free)=true
  ·obtain⟨c,hc⟩:=h (n,k) hx (by simpa using hk)
   simp only[hk,if_true,cellOf,hc,Option.getD_some,pure_bind]
  ·simp only[hk,Bool.false_eq_true,if_false]
theorem clo_mem {env:Env}:∀ (l:List (Str×NameKind)) (b:List (Str×Addr)) (p:Str×Addr),p∈l.foldl (cloStep env) b->p∈b∨∃ x∈l,x.2=.free∧p=(x.1,(env.cells.lookup x.1).getD 0)
 | [],b,p,h=>.inl h
 | x::r,b,p,h=>by
  rcases clo_mem r (cloStep env b x) p h with q | ⟨y,hy,e⟩
  ·unfold cloStep at q
   by_cases hk:(x.2==NameKind.free)=true
   ·rw[if_pos hk] at q
    rcases List.mem_cons.mp q with q | q
    ·exact .inr ⟨x,List.mem_cons_self,by simpa using hk,q⟩
    ·exact .inl q
   ·rw[if_neg hk] at q
    exact .inl q
  ·exact .inr ⟨y,List.mem_cons_of_mem _ hy,e⟩
theorem clo_old {env:Env}:∀ (l:List (Str×NameKind)) (b:List (Str×Addr)) (p:Str×Addr),p∈b->p∈l.foldl (cloStep env) b
 | [],b,p,h=>h
 | x::r,b,p,h=>clo_old r _ p (by unfold cloStep;split;exact List.mem_cons_of_mem _ h;exact h)
theorem clo_new {env:Env}(l:List (Str×NameKind)):∀ (b:List (Str×Addr)) (x:Str×NameKind),x∈l->x.2=.free->(x.1,(env.cells.lookup x.1).getD 0)∈l.foldl (cloStep env) b:=by
 induction l with
 | nil=>exact fun b x h=>absurd h List.not_mem_nil
 | cons y r ih=>
  intro b x h e
  rcases List.mem_cons.mp h with rfl | h
  ·refine clo_old r _ _ ?_
   unfold cloStep
   rw[if_pos (by rw[e];rfl)]
   exact List.mem_cons_self
  ·exact ih _ x h e
theorem lookup_mem {l:List (Str×Addr)}{n:Str}{c:Addr}(h:(n,c)∈l):∃ d,l.lookup n=some d:=by
 induction l with
 | nil=>cases h
 | cons p r ih=>
  obtain⟨m,d⟩:=p
  by_cases e:n=m
  ·subst e
   exact⟨d,by simp[List.lookup_cons]⟩
  ·rcases List.mem_cons.mp h with q | q
   ·cases q
    exact absurd rfl e
   ·obtain⟨d',q'⟩:=ih q
    exact⟨d',by rw[List.lookup_cons,show (n==m)=false by simpa using e];exact q'⟩
theorem clo_in {scope:Scope}{env:Env}(h:∀ x∈scope.names,x.2=.free->∃ c,env.cells.lookup x.1=some c){n:Str}{c:Addr}(e:(cloOf scope env).lookup n=some c):env.cells.lookup n=some c:=by
 rcases clo_mem scope.names [] (n,c) (PySem.mem_of_lookup e) with q | ⟨x,hx,hf,q⟩
 ·cases q
 ·obtain⟨d,hd⟩:=h x hx hf
  cases q
  rw[hd]
  rfl
theorem clo_has {scope:Scope}{env:Env}{n:Str}(h:(n,NameKind.free)∈scope.names):∃ c,(cloOf scope env).lookup n=some c:=
 lookup_mem (clo_new scope.names [] (n,.free) h rfl)
structure CompSc (sc:Scope)(XN:List Str)(scope:Scope)(k:Nat)(N:List Str)(ix:List Nat):Prop where
 kind:scope.kind=.function
 okind:sc.kind=.function
 nocell:∀ y∈scope.names,y.2≠.cell
 loc:∀ y∈scope.names,y.2=.local->scope.names.lookup y.1=some .local
 fr:∀ y∈scope.names,y.2=.free->sc.names.lookup y.1=some .cell
 sl:ix.map (fun i=>XN[i]?)=(N.drop k).map some
 frl:∀ x∈N.drop k,scope.names.lookup x=some .free
 len:N.length=k+ix.length
def cxComp (X:Cx)(N:List Str)(scope:Scope)(cl:List (Str×Addr))(C:Addr)(s3:Shared)(H3:Hp)(fp:List Addr)(pins:List (Addr×Obj)):Cx:=
 { X with N:=N,s₀:=s3,H₀:=H3,env:=compEnvC scope cl C X.env,outer:=X.stack,stack:=X.stack,ex:=fp,fn:=fun _=>false,pn:=X.pn++pins }
theorem relabel_free {scope:Scope}{env:Env}{x:Str}(hk:env.scope.kind=.function)(he:env.kindOf x=some .cell)(h:scope.names.lookup x=some .free):(relabel scope env).names.lookup x=some .cell:=by
 have go:∀ names:List (Str×NameKind),names.lookup x=some .free ->
   (names.map fun (n,k)=>if (k==NameKind.free&&env.scope.kind==.function&&env.kindOf n==some .cell) then (n,NameKind.cell) else (n,k)).lookup x=some .cell:=by
  intro names
  induction names with
  | nil=>intro h;cases h
  | cons p r ih=>
   obtain⟨n,k⟩:=p
   intro h
   rw[List.map_cons]
   by_cases e:x=n
   ·subst e
    have hkf:k=.free:=by simpa [List.lookup_cons] using h
    subst hkf
    simp[List.lookup_cons,hk,he]
   ·have e':(x==n)=false:=by simpa using e
    rw[List.lookup_cons,e'] at h
    have q:=ih h
    dsimp only
    split
    ·rw[List.lookup_cons,e']
     exact q
    ·rw[List.lookup_cons,e']
     exact q
 exact go _ h
theorem relabel_mem {scope:Scope}{env:Env}{x:Str}{k:NameKind}(hc:∀ y∈scope.names,y.2≠.cell)(h:(relabel scope env).names.lookup x=some k)(hk:k=.cell∨k=.free):(x,NameKind.free)∈scope.names:=by
 obtain⟨⟨n,k'⟩,hm,e⟩:=List.mem_map.mp (PySem.mem_of_lookup h)
 dsimp only at e
 split at e
 ·rename_i hq
  cases e
  have:k'=.free:=by
   have:=(Bool.and_eq_true_iff.mp (Bool.and_eq_true_iff.mp hq).1).1
   simpa using this
  subst this
  exact hm
 ·cases e
  rcases hk with rfl | rfl
  ·exact absurd rfl (hc _ hm)
  ·exact hm
section
variable {X:Cx}{pins:List (Addr×Obj)}{σ:St}{H:Hp}{s:Shared}{scope:Scope}{k:Nat}{N:List Str}{ix:List Nat}{sc:Scope}{fp:List Addr}
theorem comp_cells (I:Inv X pins σ H s)(hsc:X.env.scope=sc)(S:CompSc sc X.N scope k N ix):∀ x∈scope.names,x.2=.free->∃ c,X.env.cells.lookup x.1=some c:=fun x hx hf=>
 I.ok.has x.1 (.inl (by show X.env.scope.names.lookup x.1=_;rw[hsc];exact S.fr x hx hf))
theorem fp_stk (I:Inv X pins σ H s){b:Addr}(h1:b≠X.env.locals)(h2:b∉X.fs):b∉frs X.stack:=fun hb=>by
 rcases List.mem_cons.mp (I.stkSub b hb) with e | e
 ·exact h1 e
 ·exact h2 e
theorem comp_ok (I:Inv X pins σ H s)(hsc:X.env.scope=sc)(S:CompSc sc X.N scope k N ix)(hf:∀ b∈fp,FpOk X pins H b)(hlt:∀ b∈fp,b<s.heap.objs.size) :
  (cxComp X N scope (cloOf scope X.env) s.heap.objs.size s H fp pins).Ok:=by
 have hcl:=comp_cells I hsc S
 refine⟨I.ok.mod,S.kind,I.ok.glob,I.ok.blt,Nat.le_refl _,fun x y c h1 h2=>I.ok.inj x y c (clo_in hcl h1) (clo_in hcl h2),fun x hx=>?_,fun x c h=>(by cases (show false=true from h)),I.ok.hd,I.ok.frames,.inl rfl,fun b hb=>⟨Nat.ne_of_lt (hlt b hb),fun x c e=>?_⟩,
  I.bs,Nat.le_trans I.ok.bsz I.sz,fun b o e hb=>?_,fun b hb=>fp_stk I (hf b hb).2.1 (hf b hb).2.2.1,I.stack,I.stkFree,fun x c p h1 h2=>let z:=I.ok.tabs x c p h1 h2;⟨I.base.tabs p z.1,z.2⟩⟩
 ·have hx':(x,NameKind.free)∈scope.names:=by
   rcases hx with hx | hx
   ·exact relabel_mem S.nocell hx (.inl rfl)
   ·exact relabel_mem S.nocell hx (.inr rfl)
  exact clo_has hx'
 ·exact (hf b hb).2.2.2.2.1 x c (clo_in hcl e)
 ·rcases (hf b hb).2.2.2.1 with z | z
  ·exact I.ok.noex b o e z
  ·exact absurd (Nat.lt_of_lt_of_le (Heap.lt_size (I.ok.bs b o e).1) z) (Nat.lt_irrefl _)
def stComp (k:Nat)(ix:List Nat)(σ:St):St:=List.replicate k none++ix.map fun i=>(σ[i]?).getD none
theorem comp_start (I:Inv X pins σ H s)(hsc:X.env.scope=sc)(S:CompSc sc X.N scope k N ix)(hf:∀ b∈fp,FpOk X pins H b)(hlt:∀ b∈fp,b<s.heap.objs.size){h':Heap}{t:Nat}{m:Str->Option Value}
  (hns:h'.Ns s.heap.objs.size m) (hk:∀ b o,s.heap.get? b=some o->h'.get? b=some o) :
  Inv (cxComp X N scope (cloOf scope X.env) s.heap.objs.size s H fp pins) [] (stComp k ix σ) H { s with heap:=h',toks:=t }:=by
 have hcl:=comp_cells I hsc S
 have hkind:X.env.scope.kind=.function:=by rw[hsc];exact S.okind
 have cellK:∀ c v,s.heap.IsCell c v->h'.IsCell c v:=fun c v ⟨o,e,d⟩=>⟨o,hk c o e,d⟩
 refine⟨comp_ok I hsc S hf hlt,rfl,I.bare,Un.kept hk,⟨m,hns,fun i x v e1 e2 e3=>?_⟩,fun x c e=>?_,I.hok.fresh (Nat.le_refl _),fun x c e=>(I.freeC x c (clo_in hcl e)).imp id fun z=>⟨rfl,z.2⟩,fun p hp=>?_,I.hok.kept hk,?_⟩
 ·unfold stComp at e2
  by_cases hi:i<k
  ·rw[List.getElem?_append_left (by simpa using hi),List.getElem?_replicate,if_pos hi] at e2
   cases e2
  ·have hj:k≤i:=Nat.le_of_not_lt hi
   rw[List.getElem?_append_right (by simpa using hj),List.getElem?_map] at e2
   simp only[List.length_replicate] at e2
   cases hix:ix[i - k]? with
   | none=>rw[hix] at e2;cases e2
   | some j=>
    rw[hix] at e2
    have e2':(σ[j]?).getD none=some v:=Option.some.inj e2
    have hσ:σ[j]?=some (some v):=by
     cases q:σ[j]? with
     | none=>rw[q] at e2';cases e2'
     | some w=>rw[q] at e2';exact congrArg some e2'
    have hd:(N.drop k)[i - k]?=some x:=by
     rw[List.getElem?_drop]
     have:k+(i - k)=i:=by omega
     rw[this]
     exact e1
    have hXN:X.N[j]?=some x:=by
     have q:=congrArg (fun l=>l[i - k]?) S.sl
     simp only[List.getElem?_map,hix,hd,Option.map_some] at q
     exact Option.some.inj q
    have hfree:=S.frl x (List.mem_of_getElem? hd)
    have hmem:=PySem.mem_of_lookup hfree
    have hout:X.env.kindOf x=some .cell:=by
     show X.env.scope.names.lookup x=_
     rw[hsc]
     exact S.fr _ hmem rfl
    obtain⟨m0,hn0,hl0⟩:=I.loc
    obtain⟨u,r,l⟩:=hl0 j x v hXN hσ (.inr (.inl hout))
    refine⟨u,r,.inr ⟨.inl (relabel_free hkind hout hfree),?_⟩⟩
    rcases l with ⟨q,_⟩ | ⟨_,c,hc,z⟩
    ·rw[hout] at q;cases q
    ·obtain⟨c',hc'⟩:=clo_has (env:=X.env) hmem
     have e':=clo_in hcl hc'
     rw[hc] at e'
     obtain rfl:=Option.some.inj e'
     exact⟨c,hc',cellK c _ z⟩
 ·obtain⟨v,z⟩:=I.cell x c (clo_in hcl e)
  exact⟨v,cellK c v z⟩
 ·have hp':p∈X.pn++pins:=by simpa [cxComp] using hp
  obtain⟨e,n,ne,nf,d⟩:=I.pin p hp'
  exact⟨hk _ _ e,n,Nat.ne_of_lt (Heap.lt_size e),fp_stk I ne nf,d⟩
 ·unfold stComp
  show _=N.length
  rw[S.len,List.length_append,List.length_replicate,List.length_map]
theorem Un.other {fs ex:List Addr}{H H':Hp}{h h1 h2:Heap}(u:Un fs ex H H' h h1)(e:∀ b,b<h.objs.size->h2.get? b=h1.get? b):Un fs ex H H' h h2 where
 keep:=fun b o q n hb hx=>(e b (Heap.lt_size q)).trans (u.keep b o q n hb hx)
 slot:=fun b o q n hb hx=>by obtain⟨sl,z⟩:=u.slot b o q n hb hx;exact⟨sl,(e b (Heap.lt_size q)).trans z⟩
 free:=u.free
 there:=fun b o q hx=>by obtain⟨o',z⟩:=u.there b o q hx;exact⟨o',(e b (Heap.lt_size q)).trans z⟩
 tups:=u.tups
 frzs:=u.frzs
 tbls:=u.tbls
 tabs:=u.tabs
theorem comp_after {σ':St}{H':Hp}{s':Shared}{h':Heap}{scope:Scope}{cl:List (Str×Addr)}(I:Inv X pins σ H s)(hf:∀ b∈fp,FpOk X pins H b)
  (J:Inv (cxComp X N scope cl s.heap.objs.size s H fp pins) [] σ' H' s') (hs:Heap.SameBut s.heap.objs.size s'.heap h'):Inv X pins σ H' { s' with heap:=h' }:=by
 have un:Un (frs X.stack) fp H H' s.heap s'.heap:=J.base
 have fr:H' s.heap.objs.size=none:=J.free
 refine I.call' (s':={ s' with heap:=h' }) (ch:=fp) J.os (un.other fun b hb=>hs.2 b (Nat.ne_of_lt hb)) (fun b o e=>?_) J.bare fun b hb=>⟨(hf b hb).2.2.2.1,(hf b hb).2.1,(hf b hb).2.2.2.2.1,(hf b hb).2.2.2.2.2⟩
 refine (J.hok b o e).stay (fun c u hc q=>(hs.2 c ?_).trans q) (fun _ q=>q) fun _ _ q=>q
 rcases hc with hc | hc
 ·rw[hc];exact ne_of_none e fr
 ·exact ne_of_none hc fr
end
def tTrue:TT:=fun _ H Q=>Q true H
def PIf (X:Cx)(ifs:List Expr)(t:TT):Prop:=
 ∀ (pins:List (Addr×Obj)) (s:Shared) (σ:St) (H:Hp) (Q:Bool->Hp->Prop),Inv X pins σ H s->t σ H Q ->
  wpAny (model X.prog X.w) X.A (forIn ifs true fun c r=>if r=true then do let ok ← isTrue c X.env (eval c X.env);pure (ForInStep.yield ok) else pure (ForInStep.yield r)) (TP X pins σ Q) X.xe s
theorem pif_nil {X:Cx}:PIf X [] tTrue:=fun pins s σ H Q I h=>wpAny_tests_nil ⟨H,I,h⟩
theorem pif_one {X:Cx}{c:Expr}{t:TT}(h:PT X c t):PIf X [c] t:=fun pins s σ H Q I q=>wpAny_tests_one (h pins s σ H Q I q)
theorem comp_loop {prog:Program}{w:World}{A:Around}{R:Result->Shared->Prop}{s:Shared}{elt target iter:Expr}{ifs:List Expr}{scope:Scope}{pos:Pos}{it acc:Value}{env:Env}(J:Nat->Shared->Prop)
  (turn:∀ n s,J n s->wpAny (model prog w) A (pyNext it) (fun r s1=>match r with
   | none=>R (.ok .next) s1
   | some v=>wpAny (model prog w) A (letOwnedTupleGo target it v) (fun _ s1'=>wpAny (model prog w) A (assign target env v) (fun _ s2=>
    wpAny (model prog w) A (forIn ifs true fun c r=>if r=true then do let ok ← isTrue c env (eval c env);pure (ForInStep.yield ok) else pure (ForInStep.yield r)) (fun ok s3=>
     if ok=true then wpAny (model prog w) A (eval elt env) (fun x s4=>
      wpAny (model prog w) A (call (.builtin "list.append") [acc,x]) (fun _ s5=>∃ m,m<n∧J m s5) (fun _ _=>False) s4) (fun _ _=>False) s3
     else ∃ m,m<n∧J m s3) (fun _ _=>False) s2) (fun _ _=>False) s1') (fun _ _=>False) s1) (fun _ _=>False) s)
  (n:Nat) (h:J n s):codeAny (model prog w) A (.compLoop (.ListComp elt [⟨target,iter,ifs,0⟩] scope pos) 0 it acc env) R s:=by
 refine codeAny_loop rfl J (fun n s hJ=>?_) n h
 show wpAny _ A ((compTurn (.ListComp elt [⟨target,iter,ifs,0⟩] scope pos) 0 it acc env).onRaise _) _ _ s
 refine wpAny_noted ?_
 rw[compTurn_list]
 refine wpAny_bind (wpAny_standAt (wpAny_bind (wpAny_mono (turn n s hJ) (fun r s1 h1=>?_) fun _ _ z=>False.elim z)))
 cases r with
 | none=>exact wpAny_pure h1
 | some v=>
  refine wpAny_bind (wpAny_mono h1 (fun _ s1' h1'=>wpAny_bind (wpAny_mono h1' (fun _ s2 h2=>wpAny_bind (wpAny_mono h2 (fun ok s3 h3=>?_) fun _ _ z=>False.elim z)) fun _ _ z=>False.elim z)) fun _ _ z=>False.elim z)
  cases ok with
  | false=>exact wpAny_pure ⟨rfl,h3⟩
  | true=>
   refine wpAny_bind (wpAny_bind (wpAny_mono h3 (fun x s4 h4=>wpAny_bind (wpAny_mono h4 (fun _ s5 h5=>?_) fun _ _ z=>False.elim z)) fun _ _ z=>False.elim z))
   exact wpAny_pure (wpAny_pure ⟨rfl,h5⟩)
def tComp (wi:TI)(g:TG)(tc:TT)(te:TE)(st:St->St):TE:=fun σ H Q=>wi σ H fun J H1=>∀ D,H1 D=none->∃ W:Nat->Nat->St->Hp->Prop,(∃ m,W 0 m (st σ) (upd H1 D (.lst [])))∧∀ i m τ H2,W i m τ H2 ->
 (J.stop i H2∧Q (.ref D) H2)∨(J.go i H2∧∃ N:St->Hp->Prop,(∀ τ' H',N τ' H'->∃ m',m'<m∧W (i+1) m' τ' H')∧∀ x H3,J.yld i H2 x H3->g x τ H3 fun τ2 H4=>tc τ2 H4 fun b H5=>
  if b=true then te τ2 H5 fun y H6=>∃ ys,H6 D=some (.lst ys)∧ys.length<sizeLine∧N τ2 (upd H6 D (.lst (ys++[y]))) else N τ2 H5)
theorem comp_run {Y:Cx}{elt tg iter:Expr}{ifs:List Expr}{scope:Scope}{pos:Pos}{g:TG}{tc:TT}{te:TE}{R:Result->Shared->Prop}{it D:Addr}{fp:List Addr}{tn:Nat->Heap->Prop}{J:It}{W:Nat->Nat->St->Hp->Prop}{Q:VK}
  (hx:Y.xe=fun _ _=>False) (hc:Y.calm=true) (hg:PG Y tg g) (ht:PIf Y ifs tc) (he:PE Y elt te) (T:Turn Y.prog Y.w Y.K tg J fp it tn) (fok:∀ {H':Hp},(∀ b∈fp,H' b=none)->∀ b∈fp,FpOk Y [] H' b)
  (turn:∀ i m τ H2,W i m τ H2->(J.stop i H2∧Q (.ref D) H2)∨(J.go i H2∧∃ N:St->Hp->Prop,(∀ τ' H',N τ' H'->∃ m',m'<m∧W (i+1) m' τ' H')∧∀ x H3,J.yld i H2 x H3->g x τ H3 fun τ2 H4=>tc τ2 H4 fun b H5=>
   if b=true then te τ2 H5 fun y H6=>∃ ys,H6 D=some (.lst ys)∧ys.length<sizeLine∧N τ2 (upd H6 D (.lst (ys++[y]))) else N τ2 H5))
  (fin:∀ τ H5 s6,Inv Y [] τ H5 s6->Q (.ref D) H5->R (.ok .next) s6) {m0:Nat} {τ0:St} {H0:Hp} {s4:Shared} (I4:Inv Y [] τ0 H0 s4) (st4:tn 0 s4.heap) (fr4:∀ b∈fp,H0 b=none) (w0:W 0 m0 τ0 H0) :
  codeAny (model Y.prog Y.w) Y.A (.compLoop (.ListComp elt [⟨tg,iter,ifs,0⟩] scope pos) 0 (.ref it) (.ref D) Y.env) R s4:=by
 refine comp_loop (fun n s'=>∃ i τ H',Inv Y [] τ H' s'∧tn i s'.heap∧(∀ b∈fp,H' b=none)∧W i n τ H') ?_ m0 (⟨0,_,_,I4,st4,fr4,w0⟩)
 intro n s5 zpat
 obtain⟨i,τ,H5,I5,st5,fr5,w5⟩:=zpat
 rcases turn i n τ H5 w5 with ⟨stop,qn⟩ | ⟨go,NX,hN,step⟩
 ·refine thn (T.done Y rfl rfl rfl hc i [] s5 τ H5 _ I5 (fok fr5) st5 stop) fun r s6 zpat=>?_
  obtain⟨hr,I6⟩:=zpat
  subst hr
  exact fin τ H5 s6 I6 qn
 ·refine thn (T.item Y rfl rfl rfl hc i [] s5 τ H5 _ I5 (fok fr5) st5 go) fun r s6 zpat=>?_
  obtain⟨u,hr,h6⟩:=zpat
  subst hr
  refine thn h6 fun _ s7 zpat=>?_
  obtain⟨x,H7,I7,r7,y7,st7,fr7⟩:=zpat
  have again:∀ {τ9:St} {H9:Hp} {s9:Shared},Inv Y ([]++pinsAt fp s7.heap) τ9 H9 s9->NX τ9 H9->∃ m,m<n∧∃ i τ H',Inv Y [] τ H' s9∧tn i s9.heap∧(∀ b∈fp,H' b=none)∧W i m τ H':=fun {τ9 H9 s9} I9 n9=>by
   obtain⟨m',hm,w9⟩:=hN τ9 H9 n9
   refine ⟨m',hm,i+1,τ9,H9,I9.unpinned,(T.keep _ _ _ st7 fun b hb o q=>(I9.pin (b,o) (List.mem_append_right _ (List.mem_append_right _ (mem_pinsAt hb q)))).1),(fun b hb=>?_),w9⟩
   obtain⟨o,q,_⟩:=T.obj _ _ st7 b hb
   exact (I9.pin (b,o) (List.mem_append_right _ (List.mem_append_right _ (mem_pinsAt hb q)))).2.1
  have G:=hg _ s7 τ H7 x u _ (I7.pinned (fok fr7) (T.obj _ _ st7)) r7 (step x H7 y7)
  rw[hx] at G
  refine thn G fun _ s8 zpat=>?_
  obtain⟨τ8,H8,I8,q8⟩:=zpat
  have Tt:=ht _ s8 τ8 H8 _ I8 q8
  rw[hx] at Tt
  refine thn Tt fun b s9 zpat=>?_
  obtain⟨H9,I9,q9⟩:=zpat
  cases b with
  | false=>
   rw[if_neg Bool.false_ne_true] at q9 ⊢
   exact again I9 q9
  | true=>
   rw[if_pos rfl] at q9 ⊢
   have Te:=he _ s9 τ8 H9 _ I9 q9
   rw[hx] at Te
   refine thn Te fun xv s10 zpat=>?_
   obtain⟨y,H10,I10,r10,ys,hy,hz,n10⟩:=zpat
   have Ap:=mt_append (X:=Y) _ s10 τ8 H10 (.ref D) [y] (.ref D) [xv] (fun _ H'=>NX τ8 H') I10 rfl (.cons r10 .nil) ⟨D,ys,y,rfl,rfl,hy,hz,n10⟩
   rw[hx] at Ap
   refine thn Ap fun _ s11 zpat=>?_
   obtain⟨_,H11,I11,_,n11⟩:=zpat
   exact again I11 n11
theorem comp_gen {X:Cx}{elt tg iter:Expr}{ifs:List Expr}{scope:Scope}{pos cpos:Pos}{wi:TI}{g:TG}{tc:TT}{te:TE}{k:Nat}{N:List Str}{ix:List Nat}(sc:Scope)(hsc:X.env.scope=sc)(S:CompSc sc X.N scope k N ix)
  (hx:X.xe=fun _ _=>False) (hc:X.calm=true) (hi:PI X tg iter wi)
  (hg:∀ cl C s3 H3 fp pins,PG (cxComp X N scope cl C s3 H3 fp pins) tg g) (ht:∀ cl C s3 H3 fp pins,PIf (cxComp X N scope cl C s3 H3 fp pins) ifs tc) (he:∀ cl C s3 H3 fp pins,PE (cxComp X N scope cl C s3 H3 fp pins) elt te)
  {use:Option (Value->Sem Unit)} {QQ:Value->Shared->Prop} (pins:List (Addr×Obj)) (s:Shared) (σ:St) (H:Hp) (Q:VK) (I:Inv X pins σ H s) (h:tComp wi g tc te (stComp k ix) σ H Q)
  (hend:∀ (D C:Addr) (H5:Hp) (s6:Shared),(∀ h',Heap.SameBut C s6.heap h'->Inv X pins σ H5 { s6 with heap:=h' })->(∃ m6,s6.heap.Ns C m6)->FpOk X pins H5 C->Q (.ref D) H5->compPost (model X.prog X.w) X.A X.xe use QQ (.ref D) C (.ok .next) s6)
  (hs:∀ x,foldedSetIterable iter X.env x=pure x:=by intro _;rfl):wpAny (model X.prog X.w) X.A (comprehension (.ListComp elt [⟨tg,iter,ifs,0⟩] scope pos) scope X.env cpos (newList []) false (eval iter X.env) use) QQ X.xe s:=by
 refine wpAny_comprehension_free (use:=use) rfl hs (closure_is (comp_cells I hsc S)) S.kind S.loc (thn (hi pins s σ H _ I h) fun v s1 h1=>thn h1 fun itv s2 h2=>?_)
 obtain⟨it,fp,tn,J,H2,e,I2,T,st2,f2,q2⟩:=id (h2)
 subst e
 refine wpAny_newObj_type ?_ (by show 0≤sizeLine;exact Nat.zero_le _)
 have hDn:H2 s2.heap.objs.size=none:=I2.hok.fresh (Nat.le_refl _)
 obtain⟨W,⟨m0,w0⟩,turn⟩:=q2 s2.heap.objs.size hDn
 have kp3:∀ b o,s2.heap.get? b=some o->(s2.heap.push { cls:=.type "list",data:=.seq ([]:List Value).toArray }).get? b=some o:=fun b o q=>Heap.get?_push_of_some _ q
 have I3:Inv X pins σ (upd H2 s2.heap.objs.size (.lst [])) { s2 with heap:=s2.heap.push { cls:=.type "list",data:=.seq ([]:List Value).toArray } }:=
  I2.laid (t':=s2.toks) kp3 (Nat.le_refl _) ⟨Nat.zero_le _,[],0,.nil,Heap.get?_push_size _ rfl⟩
 have hlt2:∀ b∈fp,b<s2.heap.objs.size:=fun b hb=>by obtain⟨o,q,_⟩:=T.obj _ _ st2 b hb;exact Heap.lt_size q
 have f3:∀ b∈fp,FpOk X pins (upd H2 s2.heap.objs.size (.lst [])) b:=fun b hb=>⟨by rw[upd_ne (Nat.ne_of_lt (hlt2 b hb))];exact (f2 b hb).1,(f2 b hb).2⟩
 generalize hs3:({ s2 with heap:=s2.heap.push { cls:=.type "list",data:=.seq ([]:List Value).toArray } }:Shared)=s3 at I3
 have st3:tn 0 s3.heap:=by rw[← hs3];exact T.keep _ _ _ st2 fun b hb o q=>kp3 b o q
 have hlt3:∀ b∈fp,b<s3.heap.objs.size:=fun b hb=>by obtain⟨o,q,_⟩:=T.obj _ _ st3 b hb;exact Heap.lt_size q
 generalize s2.heap.objs.size=D at w0 turn I3 f3 hDn
 generalize upd H2 D (.lst [])=H3 at w0 I3 f3
 refine wpAny_newFunctionEnv S.nocell (by intro y hy;cases hy) (fun h4 hns hsb=>?_) S.kind
 have kp4:∀ b o,s3.heap.get? b=some o->h4.get? b=some o:=fun b o q=>hsb.extBut b o (Nat.ne_of_lt (Heap.lt_size q)) (Heap.get?_push_of_some _ q)
 have I4:=comp_start (t:=s3.toks+([]:List (Str×Value)).length) I3 hsc S f3 hlt3 hns kp4
 have st4:tn 0 h4:=T.keep _ _ _ st3 fun b hb o q=>kp4 b o q
 -- the context of the block
 have loop:∀ s4:Shared,s4={ s3 with heap:=h4,toks:=s3.toks+([]:List (Str×Value)).length } ->
   codeAny (model X.prog X.w) X.A (.compLoop (.ListComp elt [⟨tg,iter,ifs,0⟩] scope pos) 0 (.ref it) (.ref D) (compEnvC scope (cloOf scope X.env) s3.heap.objs.size X.env))
    (compPost (model X.prog X.w) X.A X.xe use QQ (.ref D) s3.heap.objs.size) s4:=by
  rintro s4 rfl
  have fok:∀ {H':Hp},(∀ b∈fp,H' b=none)->∀ b∈fp,FpOk (cxComp X N scope (cloOf scope X.env) s3.heap.objs.size s3 H3 fp pins) [] H' b:=fun {H'} hn b hb=>
   ⟨hn b hb,Nat.ne_of_lt (hlt3 b hb),fp_stk I3 (f3 b hb).2.1 (f3 b hb).2.2.1,.inl hb,fun x c e=>(f3 b hb).2.2.2.2.1 x c (clo_in (comp_cells I3 hsc S) e),fun p hp=>(f3 b hb).2.2.2.2.2 p (by simpa [cxComp] using hp)⟩
  exact comp_run (Y:=cxComp X N scope (cloOf scope X.env) s3.heap.objs.size s3 H3 fp pins) hx hc (hg _ _ _ _ _ _) (ht _ _ _ _ _ _) (he _ _ _ _ _ _) T fok turn (fun τ H5 s6 I6 qn=>by
   obtain⟨m6,hn6,_⟩:=I6.loc
   exact hend D _ H5 s6 (fun h' hs'=>comp_after I3 f3 I6 hs') ⟨m6,hn6⟩ (I3.fpOk (Nat.le_refl _) I6.free) qn) I4 st4 (fun b hb=>(f3 b hb).1) w0
 subst hs3
 exact codeAny_compStart_list (loop _ rfl) (T.self _ 0 _ _ _ st4 (loop _ rfl))
theorem pe_comp {X:Cx}{elt tg iter:Expr}{ifs:List Expr}{scope:Scope}{pos:Pos}{wi:TI}{g:TG}{tc:TT}{te:TE}{k:Nat}{N:List Str}{ix:List Nat}(sc:Scope)(hsc:X.env.scope=sc)(S:CompSc sc X.N scope k N ix)
  (hx:X.xe=fun _ _=>False) (hc:X.calm=true) (hi:PI X tg iter wi)
  (hg:∀ cl C s3 H3 fp pins,PG (cxComp X N scope cl C s3 H3 fp pins) tg g) (ht:∀ cl C s3 H3 fp pins,PIf (cxComp X N scope cl C s3 H3 fp pins) ifs tc) (he:∀ cl C s3 H3 fp pins,PE (cxComp X N scope cl C s3 H3 fp pins) elt te)
  (hs:∀ x,foldedSetIterable iter X.env x=pure x:=by intro _;rfl):PE X (.ListComp elt [⟨tg,iter,ifs,0⟩] scope pos) (tComp wi g tc te (stComp k ix)):=by
 intro pins s σ H Q I h
 rw[eval_ListComp]
 show wpAny _ X.A (comprehension (.ListComp elt [⟨tg,iter,ifs,0⟩] scope pos) scope X.env _ (newList []) false (eval iter X.env) none) _ _ s
 refine comp_gen sc hsc S hx hc hi hg ht he (use:=none) (QQ:=EP X pins σ Q) pins s σ H Q I h (fun D C H5 s6 hI hm hf q=>?_) hs
 obtain⟨m6,hn6⟩:=id (hm)
 exact⟨m6,hn6,fun h' hs'=>⟨.ref D,H5,hI h' hs',rfl,q⟩⟩
end L2
namespace L2
theorem Same.tup {K:PySem.W.Frag}{H H':Hp}{a:Addr}{xs:List V}(e:Same H H')(h:SqT K H a xs):SqT K H' a xs:=by
 rcases h with (h | ⟨o,h⟩) | h
 ·exact .inl (.inl (e _ _ h))
 ·exact .inl (.inr ⟨o,e _ _ h⟩)
 ·exact .inr h
def rCatS (K:PySem.W.Frag):R2:=fun x y H Q=>∃ l b xs zs,x=.ref l∧y=.ref b∧SqL K H l xs∧SqL K H b zs∧xs.length+zs.length≤sizeLine∧∀ p,H p=none->Q (.ref p) (upd H p (.lst (xs++zs)))
theorem op_catS {X:Cx}:OpR X (binaryOp .Add) (rCatS X.K):=by
 intro pins s σ H x y v u Q I rx ry h
 revert h
 refine fun zqq=>?_;obtain⟨l,b,xs,zs,zq4,zq5,hH,hB,hz,q⟩:=zqq
 subst zq4
 subst zq5
 cases rx
 cases ry
 obtain⟨its,r,pl,hz1⟩:=I.list hH
 obtain⟨its2,r2,pl2,hz2⟩:=I.list hB
 have l1:=r.length
 have l2:=r2.length
 obtain⟨⟨cls,dd,data,sl⟩,ho,hc,n,hd⟩:=pl.isList
 obtain⟨⟨cls2,dd2,data2,sl2⟩,ho2,hc2,n2,hd2⟩:=pl2.isList
 simp only at hc hd hc2 hd2
 subst hc hd hc2 hd2
 have ea:its.toArray++its2.toArray=(its++its2).toArray:=by simp
 refine concat_meets ⟨_,ho,rfl⟩ ⟨_,ho2,rfl⟩ noFill_list_add seq_list_add PySem.F.slot_list_add PySem.F.entry_list_add (PySem.F.args_list_add_2 _ _) (list_addW l b its.toArray its2.toArray n n2 dd dd2 sl sl2 (by simp only[List.size_toArray];omega)) ⟨ho,ho2,?_⟩
 rw[ea]
 exact⟨.ref _,_,I.lnew (t':=s.toks) (r.append r2) (by rw[List.length_append];exact hz),rfl,q _ I.fresh⟩
def big:Nat:=2 ^ 1000
theorem bits_of_big {a:Int}(h:a.natAbs<big):Builtin.Int.intBits a≤2 ^ 20:=by
 unfold Builtin.Int.intBits
 by_cases h0:a=0
 ·subst h0;simp
 ·have h1:a.natAbs≠0:=by omega
  have h2:a.natAbs.log2<1000:=(Nat.log2_lt h1).mpr h
  have h3:(a==0)=false:=by simpa using h0
  rw[h3]
  simp only[Bool.false_eq_true,if_false]
  have:(2:Nat) ^ 20=1048576:=by decide
  omega
theorem log_of_big {a:Int}(h:a.natAbs<big):a.natAbs.log2<9000:=by
 by_cases h0:a.natAbs=0
 ·rw[h0];decide +kernel
 ·have h2:a.natAbs.log2<1000:=(Nat.log2_lt h0).mpr h
  omega
def CMulB (i j:Int):Prop:=(i.natAbs<big∧j.natAbs<big)∨CMul i j
def CDivB (_ j:Int):Prop:=j≠0∧j.natAbs<big
theorem op_mulB {X:Cx}:OpR X (binaryOp .Mult) (rI CMulB fun i j=>.int (i*j)):=opI fun _ _ _ _ _ _ _ hc q=>mul_int q (hc.elim (fun z=>.of_bits (bits_of_big z.1) (bits_of_big z.2)) CMul.ok)
theorem op_fdivB {X:Cx}:OpR X (binaryOp .FloorDiv) (rI CDivB fun i j=>.int (i.fdiv j)):=opI fun _ _ _ _ _ _ _ hc q=>floordiv_int hc.1 q (.inl (PyProof.noPylong_of_log2 (log_of_big hc.2)))
structure Lam where
 qual:Str
 params:Arguments
 body:Expr
 scope:Scope
 ps:List Str
 free:List Str
class Reg where
 reg:Str->Option Lam
variable [Reg]
def fz (a:Addr)(o:Obj):HO:=.frz o (.ext fun h=>h.get? a=some o)
def LamAt (H:Hp)(g:Addr)(L:Lam)(cv:List V):Prop:=
 ∃ (clos:List (Str×Addr)) (pm:Value) (c':Addr) (ctv:Value) (oc:Obj) (vs:Array Value) (q:Str) (t:Tok) (φ:HO),H g=some (fz g (PySem.W.kla_obj "<lambda>" L.qual L.params L.body L.scope clos pm c' ctv))∧H c'=some (.frz oc φ)∧oc.data=.fields vs∧vs[1]?=some (.str q t)∧cv.length=clos.length ∧
  clos.map (fun z=>z.1)=L.free∧(clos.map (fun z=>z.2)).Nodup∧∀ (i:Nat) (z:Str×Addr) (v:V),clos[i]?=some z->cv[i]?=some v->∃ u o,H z.2=some (fz z.2 o)∧o.data=.cell (some u)∧RelV v u
def FnV (K:PySem.W.Frag)(H:Hp)(g:Addr)(tag:Str)(cv:List V):Prop:=
 (Reg.reg tag=none∧cv=[]∧PySem.W.nsIn K mainGlobals tag=some (some (.ref g)))∨∃ L,Reg.reg tag=some L∧LamAt H g L cv
theorem LamAt.mono {H H':Hp}{g:Addr}{L:Lam}{cv:List V}(e:Same H H')(h:LamAt H g L cv):LamAt H' g L cv:=by
 obtain⟨clos,pm,c',ctv,oc,vs,q,t,φ,h1,h2,h3,h4,h5,h6,h7,h8⟩:=id (h)
 exact ⟨clos,pm,c',ctv,oc,vs,q,t,φ,e _ _ h1,e _ _ h2,h3,h4,h5,h6,h7,(fun i q v a b=>let ⟨u,o,x,y⟩:=h8 i q v a b;⟨u,o,e _ _ x,y⟩)⟩
theorem FnV.mono {K:PySem.W.Frag}{H H':Hp}{g:Addr}{tag:Str}{cv:List V}(e:Same H H')(h:FnV K H g tag cv):FnV K H' g tag cv:=by
 rcases h with h | ⟨L,h1,h2⟩
 ·exact .inl h
 ·exact .inr ⟨L,h1,h2.mono e⟩
def ExcV (K:PySem.W.Frag)(H:Hp)(e:Addr)(cls:Str)(fv:List (Str×V)):Prop:=
 ∃ (oe:Obj) (C:Addr) (vs:Array Value),H e=some (fz e oe)∧oe.cls=.ref C∧oe.data=.fields vs∧PySem.W.nsIn K mainGlobals cls=some (some (.ref C))∧((fv=[]∧oe.dict=none)∨∃ dx,oe.dict=some dx∧H dx=some (.xd fv))
theorem ExcV.mono {K:PySem.W.Frag}{H H':Hp}{e:Addr}{cls:Str}{fv:List (Str×V)}(s:Same H H')(h:ExcV K H e cls fv):ExcV K H' e cls fv:=by
 obtain⟨oe,C,vs,h1,h2,h3,h4,h5⟩:=id (h)
 refine ⟨oe,C,vs,s _ _ h1,h2,h3,h4,?_⟩
 rcases h5 with h5 | ⟨dx,h5,h6⟩
 ·exact .inl h5
 ·exact .inr ⟨dx,h5,s _ _ h6⟩
def excD (cls:Str)(fd:List PyData):PyData:=.dict [(.bool true,.str cls),(.none,.tuple fd)]
def nmD (fv:List (Str×V)):List PyData:=fv.map fun p=>.str p.1
def InsV (K:PySem.W.Frag)(H:Hp)(a:Addr)(cls:Str)(fs:List (Str×V)):Prop:=∃ C dx,H a=some (.ins C dx fs)∧PySem.W.nsIn K mainGlobals cls=some (some (.ref C))
theorem InsV.mono {K:PySem.W.Frag}{H H':Hp}{a:Addr}{cls:Str}{fs:List (Str×V)}(s:Same H H')(h:InsV K H a cls fs):InsV K H' a cls fs:=by
 obtain⟨C,dx,h1,h2⟩:=id (h)
 exact ⟨C,dx,s _ _ h1,h2⟩
def objD (cls:Str)(ns:List Str)(fd:List PyData):PyData:=.dict [(.bool false,.str cls),(.none,.tuple (ns.map .str)),(.none,.tuple fd)]
def DctV (H:Hp)(a:Addr)(kvs:List (Key×V))(ks:List Str):Prop:=H a=some (.dK kvs)∧kvs.map (·.1)=ks.map Sum.inr
theorem DctV.mono {H H':Hp}{a:Addr}{kvs:List (Key×V)}{ks:List Str}(s:Same H H')(h:DctV H a kvs ks):DctV H' a kvs ks:=⟨s _ _ h.1,h.2⟩
def dctD (ks:List Str)(ds:List PyData):PyData:=.dict [(.int 0,.tuple (ks.map .str)),(.none,.tuple ds)]
mutual
inductive Den (K:PySem.W.Frag)(H:Hp):V->PyData->Prop
 | non:Den K H .non .none
 | bl (b:Bool):Den K H (.bl b) (.bool b)
 | int (i:Int):Den K H (.int i) (.int i)
 | str (x:Str):Den K H (.str x) (.str x)
 | tup {a:Addr} {vs:List V} {ds:List PyData}:SqT K H a vs->DenL K H vs ds->Den K H (.ref a) (.tuple ds)
 | lst {a:Addr} {vs:List V} {ds:List PyData}:SqL K H a vs->DenL K H vs ds->Den K H (.ref a) (.list ds)
 | fn {g:Addr} {tag:Str} {cv:List V} {caps:List PyData}:FnV K H g tag cv->DenL K H cv caps->Den K H (.ref g) (.dict [(.none,.str tag),(.none,.tuple caps)])
 | exc {e:Addr} {cls:Str} {fv:List (Str×V)} {fd:List PyData}:ExcV K H e cls fv->DenL K H (fv.map (·.2)) fd->Den K H (.ref e) (.dict [(.bool true,.str cls),(.none,.tuple (nmD fv++fd))])
 | obj {a:Addr} {cls:Str} {fs:List (Str×V)} {fd:List PyData}:InsV K H a cls fs->DenL K H (fs.map (·.2)) fd->Den K H (.ref a) (.dict [(.bool false,.str cls),(.none,.tuple ((fs.map (·.1)).map .str)),(.none,.tuple fd)])
 | dct {a:Addr} {kvs:List (Key×V)} {ks:List Str} {ds:List PyData}:DctV H a kvs ks->DenL K H (kvs.map (·.2)) ds->Den K H (.ref a) (.dict [(.int 0,.tuple (ks.map .str)),(.none,.tuple ds)])
inductive DenL (K:PySem.W.Frag)(H:Hp):List V->List PyData->Prop
 | nil:DenL K H [] []
 | cons {v:V} {d:PyData} {vs:List V} {ds:List PyData}:Den K H v d->DenL K H vs ds->DenL K H (v::vs) (d::ds)
end
section
variable {K:PySem.W.Frag}{H H':Hp}
theorem Den.mono (e:Same H H'){v:V}{d:PyData}(h:Den K H v d):Den K H' v d:=
 Den.rec (motive_1:=fun v d _=>Den K H' v d) (motive_2:=fun vs ds _=>DenL K H' vs ds) .non .bl .int .str (fun h _ r=>.tup (e.tup h) r) (fun h _ r=>.lst (e.seq h) r) (fun h _ r=>.fn (h.mono e) r) (fun h _ r=>.exc (h.mono e) r) (fun h _ r=>.obj (h.mono e) r) (fun h _ r=>.dct (h.mono e) r) .nil (fun _ _ a b=>.cons a b) h
theorem DenL.mono (e:Same H H'){vs:List V}{ds:List PyData}(h:DenL K H vs ds):DenL K H' vs ds:=
 DenL.rec (motive_1:=fun v d _=>Den K H' v d) (motive_2:=fun vs ds _=>DenL K H' vs ds) .non .bl .int .str (fun h _ r=>.tup (e.tup h) r) (fun h _ r=>.lst (e.seq h) r) (fun h _ r=>.fn (h.mono e) r) (fun h _ r=>.exc (h.mono e) r) (fun h _ r=>.obj (h.mono e) r) (fun h _ r=>.dct (h.mono e) r) .nil (fun _ _ a b=>.cons a b) h
theorem DenL.ind {M:List V->List PyData->Prop}(n:M [] [])(c:∀ {v d vs ds},Den K H v d->DenL K H vs ds->M vs ds->M (v::vs) (d::ds)){vs:List V}{ds:List PyData}(h:DenL K H vs ds):M vs ds:=
 DenL.rec (motive_1:=fun _ _ _=>True) (motive_2:=fun vs ds _=>M vs ds) trivial (fun _=>trivial) (fun _=>trivial) (fun _=>trivial) (fun _ _ _=>trivial) (fun _ _ _=>trivial) (fun _ _ _=>trivial) (fun _ _ _=>trivial) (fun _ _ _=>trivial) (fun _ _ _=>trivial) n (fun h r _ ih=>c h r ih) h
theorem DenL.length {vs:List V}{ds:List PyData}(h:DenL K H vs ds):vs.length=ds.length:=h.ind (M:=fun vs ds=>vs.length=ds.length) rfl fun _ _ ih=>congrArg (·+1) ih
theorem DenL.get {vs:List V}{ds:List PyData}{i:Nat}{d:PyData}(h:DenL K H vs ds):ds[i]?=some d->∃ v,vs[i]?=some v∧Den K H v d:=
 h.ind (M:=fun vs ds=>∀ i,ds[i]?=some d->∃ v,vs[i]?=some v∧Den K H v d) (fun _ e=>by rw[List.getElem?_nil] at e;cases e) (fun h _ ih i=>by
  cases i with
  | zero=>intro e;cases e;exact⟨_,rfl,h⟩
  | succ i=>exact ih i) i
theorem DenL.append {vs ws:List V}{ds es:List PyData}(h:DenL K H vs ds)(s:DenL K H ws es):DenL K H (vs++ws) (ds++es):=h.ind (M:=fun vs ds=>DenL K H (vs++ws) (ds++es)) s fun h _ ih=>.cons h ih
theorem DenL.set {v:V}{d:PyData}(h:Den K H v d):∀ {vs:List V} {ds:List PyData} (i:Nat),DenL K H vs ds->DenL K H (vs.set i v) (ds.set i d)
 | _,_,_,.nil=>.nil
 | _,_,0,.cons _ r=>.cons h r
 | _,_,i+1,.cons q r=>.cons q (DenL.set h i r)
theorem DenL.take:∀ {vs:List V} {ds:List PyData} (n:Nat),DenL K H vs ds->DenL K H (vs.take n) (ds.take n)
 | _,_,0,_=>.nil
 | _,_,_+1,.nil=>.nil
 | _,_,n+1,.cons h r=>.cons h (DenL.take n r)
theorem DenL.drop:∀ {vs:List V} {ds:List PyData} (n:Nat),DenL K H vs ds->DenL K H (vs.drop n) (ds.drop n)
 | _,_,0,r=>r
 | _,_,_+1,.nil=>.nil
 | _,_,n+1,.cons _ r=>DenL.drop n r
theorem DenL.ints:∀ ns:List Int,DenL K H (ns.map V.int) (ns.map PyData.int)
 | []=>.nil
 | n::r=>.cons (.int n) (DenL.ints r)
theorem DenL.atI {vs:List V}{ds:List PyData}{i:Int}{d:PyData}(r:DenL K H vs ds)(h:atI ds i=some d):∃ v,L2.atI vs i=some v∧Den K H v d:=by
 unfold L2.atI at h ⊢
 rw[← r.length] at h
 cases e:ixN vs.length i with
 | none=>rw[e] at h;cases h
 | some j=>
  rw[e] at h
  obtain⟨v,h1,h2⟩:=r.get h
  exact⟨v,h1,h2⟩
inductive Sc:V->PyData->Prop
 | non:Sc .non .none
 | bl (b:Bool):Sc (.bl b) (.bool b)
 | int (i:Int):Sc (.int i) (.int i)
 | str (x:Str):Sc (.str x) (.str x)
theorem Sc.den {v:V}{d:PyData}(h:Sc v d):Den K H v d:=by
 cases h with
 | non=>exact .non
 | bl b=>exact .bl b
 | int i=>exact .int i
 | str x=>exact .str x
theorem den_int {v:V}{i:Int}(h:Den K H v (.int i)):v=.int i:=by cases h;rfl
theorem den_bl {v:V}{b:Bool}(h:Den K H v (.bool b)):v=.bl b:=by cases h;rfl
inductive DLst (K:PySem.W.Frag)(H:Hp)(v:V)(ds:List PyData):Prop
 | mk (a:Addr) (vs:List V) (e:v=.ref a) (q:SqL K H a vs) (r:DenL K H vs ds):DLst K H v ds
inductive DTup (K:PySem.W.Frag)(H:Hp)(v:V)(ds:List PyData):Prop
 | mk (a:Addr) (vs:List V) (e:v=.ref a) (q:SqT K H a vs) (r:DenL K H vs ds):DTup K H v ds
theorem den_lst {v:V}{ds:List PyData}(h:Den K H v (.list ds)):DLst K H v ds:=by cases h with | lst q r=>exact⟨_,_,rfl,q,r⟩
theorem den_tup {v:V}{ds:List PyData}(h:Den K H v (.tuple ds)):DTup K H v ds:=by cases h with | tup q r=>exact⟨_,_,rfl,q,r⟩
theorem denl_cons {vs:List V}{d:PyData}{ds:List PyData}(h:DenL K H vs (d::ds)):∃ v ws,vs=v::ws∧Den K H v d∧DenL K H ws ds:=by cases h with | cons q r=>exact⟨_,_,rfl,q,r⟩
theorem denl_nil {vs:List V}(h:DenL K H vs []):vs=[]:=by cases h;rfl
def lf:PyData->Bool
 | .list _=>false
 | .dict _=>false
 | .tuple ds=>go ds
 | _=>true
where go:List PyData->Bool
 | []=>true
 | d::r=>lf d&&go r
end
section
variable {X:Cx}{pins:List (Addr×Obj)}{σ:St}{H:Hp}{s:Shared}
theorem Den.reads (I:Inv X pins σ H s){v:V}{d:PyData}{u:Value}(h:Den X.K H v d)(z:d.canLay0=true)(r:RelV v u):∃ as,Reads s.heap u d as:=by
 refine Den.rec (motive_1:=fun v d _=>d.canLay0=true->∀ u,RelV v u->∃ as,Reads s.heap u d as) (motive_2:=fun vs ds _=>PyData.canLayAll0 ds=true->∀ us,Vals vs us->∃ as,ReadsAll s.heap us ds as) ?_ ?_ ?_ ?_ ?_ ?_ (fun _ _ _ z=>by simp[PyData.canLay0] at z) (fun _ _ _ z=>by simp[PyData.canLay0] at z) (fun _ _ _ z=>by simp[PyData.canLay0] at z) (fun _ _ _ z=>by simp[PyData.canLay0] at z) ?_ ?_ h z u r
 ·intro _ u r;cases r;exact⟨_,Reads.none⟩
 ·intro b _ u r;cases r;exact⟨_,Reads.bool b⟩
 ·intro i _ u r;obtain⟨t,rfl⟩:=r;exact⟨_,Reads.int i t⟩
 ·intro x _ u r;obtain⟨t,rfl⟩:=r;exact⟨_,Reads.str x t⟩
 ·intro _ _ _ h _ ih z u r
  cases r
  obtain⟨its,rv,⟨o,e,c,n,d⟩,_⟩:=I.tuple h
  obtain⟨as,z⟩:=ih (by simpa [PyData.canLay0] using z) its rv
  exact⟨as,reads_tuple_at e c d (by simpa using z)⟩
 ·intro _ _ _ h _ ih z u r
  cases r
  obtain⟨its,rv,⟨o,n,e,c,_,d⟩,_⟩:=I.list h
  obtain⟨as,z⟩:=ih (by simpa [PyData.canLay0] using z) its rv
  exact⟨_,reads_list_at e c d (by simpa using z)⟩
 ·intro _ us r;cases r;exact⟨_,ReadsAll.nil⟩
 ·intro _ _ _ _ _ _ ih1 ih2 z us r
  rw[PyData.canLayAll0,Bool.and_eq_true] at z
  cases r with
  | cons r1 r2=>
   obtain⟨as,z1⟩:=ih1 z.1 _ r1
   obtain⟨bs,y⟩:=ih2 z.2 _ r2
   exact⟨_,ReadsAll.cons z1 y⟩
def rEqD (K:PySem.W.Frag):R2:=fun x y H Q=>∃ da db,Den K H x da∧Den K H y db∧SeqAt.shaped da=true∧SeqAt.shaped db=true∧Q (.bl (PyData.eqv da db)) H
def rNeD (K:PySem.W.Frag):R2:=fun x y H Q=>∃ da db,Den K H x da∧Den K H y db∧SeqAt.shaped da=true∧SeqAt.shaped db=true∧Q (.bl (!PyData.eqv da db)) H
theorem op_eqD (hu:X.A.units+64<cLine):OpR X (compareOp .Eq) (rEqD X.K):=by
 intro pins s σ H x y v u Q I rx ry h
 obtain⟨da,db,ha,hb,sa,sb,q⟩:=id (h)
 obtain⟨as,ra⟩:=ha.reads I (SeqAt.canLay_of_shaped sa) rx
 obtain⟨bs,rb⟩:=hb.reads I (SeqAt.canLay_of_shaped sb) ry
 exact eq_dataH ra rb sa sb hu (fin_bl I q rfl)
theorem op_neD (hu:X.A.units+64<cLine):OpR X (compareOp .NotEq) (rNeD X.K):=by
 intro pins s σ H x y v u Q I rx ry h
 obtain⟨da,db,ha,hb,sa,sb,q⟩:=id (h)
 obtain⟨as,ra⟩:=ha.reads I (SeqAt.canLay_of_shaped sa) rx
 obtain⟨bs,rb⟩:=hb.reads I (SeqAt.canLay_of_shaped sb) ry
 exact ne_dataH ra rb sa sb hu (fin_bl I q rfl)
end
inductive OwO where
 | l (vs:List V) | i (C dx:Addr) (fs:List (Str×V)) | d (kvs:List (Key×V))
def OwO.ho:OwO->HO
 | .l vs=>.lst vs
 | .i C dx fs=>.ins C dx fs
 | .d kvs=>.dK kvs
open Classical in
def del (H:Hp)(P:Addr->Prop):Hp:=fun b=>if P b then none else H b
def uni (hid:Addr->Prop)(ow:List Addr):Addr->Prop:=fun b=>hid b∨b∈ow
theorem del_in {H:Hp}{P:Addr->Prop}{b:Addr}(h:P b):del H P b=none:=by unfold del;rw[if_pos h]
theorem del_out {H:Hp}{P:Addr->Prop}{b:Addr}(h:¬ P b):del H P b=H b:=by unfold del;rw[if_neg h]
theorem del_same (H:Hp)(P:Addr->Prop):Same (del H P) H:=fun b o e=>by
 by_cases h:P b
 ·rw[del_in h] at e;cases e
 ·rw[del_out h] at e;exact e
theorem del_mono {H H':Hp}(e:Same H H')(P:Addr->Prop):Same (del H P) (del H' P):=fun b o q=>by
 by_cases h:P b
 ·rw[del_in h] at q;cases q
 ·rw[del_out h] at q ⊢;exact e b o q
theorem del_sub {H:Hp}{P Q:Addr->Prop}(h:∀ b,P b->Q b):Same (del H Q) (del H P):=fun b o q=>by
 by_cases hq:Q b
 ·rw[del_in hq] at q;cases q
 ·rw[del_out hq] at q
  rw[del_out fun z=>hq (h b z)]
  exact q
theorem del_false (H:Hp):del H (fun _=>False)=H:=by funext b;exact del_out (fun z=>z)
theorem uni_nil (hid:Addr->Prop):uni hid []=hid:=by
 funext b
 unfold uni
 simp
theorem uni_in {hid:Addr->Prop}{ow:List Addr}{b:Addr}(h:b∈ow):uni hid ow b:=.inr h
theorem del_uni (H:Hp)(hid:Addr->Prop)(ow:List Addr):Same (del H (uni hid ow)) (del H hid):=del_sub fun _ z=>.inl z
theorem del_upd {H:Hp}{l:Addr}{P:Addr->Prop}{o:HO}(h:P l):del (upd H l o) P=del H P:=by
 funext b
 by_cases hb:P b
 ·rw[del_in hb,del_in hb]
 ·rw[del_out hb,del_out hb,upd_ne]
  rintro rfl
  exact hb h
theorem same_new {H:Hp}{p:Addr}{o:HO}(h:H p=none):Same H (upd H p o):=fun b u e=>by rw[upd_ne (ne_of_none e h)];exact e
theorem del_new {H H':Hp}{p:Addr}{P Q:Addr->Prop}(s:Same H H')(h:H p=none)(hq:∀ b,Q b->P b∨b=p):Same (del H P) (del H' Q):=fun b u e=>by
 by_cases hb:P b
 ·rw[del_in hb] at e;cases e
 ·rw[del_out hb] at e
  have hne:b≠p:=ne_of_none e h
  rw[del_out fun z=>(hq b z).elim hb hne]
  exact s b u e
section
variable {K:PySem.W.Frag}{H:Hp}{hid:Addr->Prop}{ow:List Addr}
theorem del_lst (hi:∀ l∈ow,∃ vs:OwO,H l=some vs.ho){a:Addr}{o:HO}(e:del H hid a=some o)(n:∀ vs:OwO,o≠vs.ho):del H (uni hid ow) a=some o:=by
 have e':=del_same _ _ a o e
 have nh:¬ hid a:=fun z=>by rw[del_in z] at e;cases e
 rw[del_out]
 ·exact e'
 ·rintro (z | z)
  ·exact nh z
  ·obtain⟨vs,e2⟩:=hi a z
   rw[e'] at e2
   exact n vs (Option.some.inj e2)
theorem SqT.clean (hi:∀ l∈ow,∃ vs:OwO,H l=some vs.ho){a:Addr}{vs:List V}(q:SqT K (del H hid) a vs):SqT K (del H (uni hid ow)) a vs:=by
 rcases q with (q | ⟨o,q⟩) | q
 ·exact .inl (.inl (del_lst hi q fun w z=>by cases w <;> cases z))
 ·exact .inl (.inr ⟨o,del_lst hi q fun w z=>by cases w <;> cases z⟩)
 ·exact .inr q
theorem Den.clean (hi:∀ l∈ow,∃ vs:OwO,H l=some vs.ho){v:V}{d:PyData}(z:Den K (del H hid) v d):lf d=true->Den K (del H (uni hid ow)) v d:=
 Den.rec (motive_1:=fun v d _=>lf d=true->Den K (del H (uni hid ow)) v d) (motive_2:=fun vs ds _=>lf.go ds=true->DenL K (del H (uni hid ow)) vs ds) (fun _=>.non) (fun b _=>.bl b) (fun i _=>.int i) (fun x _=>.str x) (fun q _ r h=>.tup (q.clean hi) (r h)) (fun _ _ _ h=>by cases h) (fun _ _ _ h=>by cases h) (fun _ _ _ h=>by cases h) (fun _ _ _ h=>by cases h) (fun _ _ _ h=>by cases h) (fun _=>.nil) (fun _ _ a b h=>by rw[lf.go,Bool.and_eq_true] at h;exact .cons (a h.1) (b h.2)) z
theorem DenL.clean (hi:∀ l∈ow,∃ vs:OwO,H l=some vs.ho){vs:List V}{ds:List PyData}(z:DenL K (del H hid) vs ds):lf.go ds=true->DenL K (del H (uni hid ow)) vs ds:=
 DenL.rec (motive_1:=fun v d _=>lf d=true->Den K (del H (uni hid ow)) v d) (motive_2:=fun vs ds _=>lf.go ds=true->DenL K (del H (uni hid ow)) vs ds) (fun _=>.non) (fun b _=>.bl b) (fun i _=>.int i) (fun x _=>.str x) (fun q _ r h=>.tup (q.clean hi) (r h)) (fun _ _ _ h=>by cases h) (fun _ _ _ h=>by cases h) (fun _ _ _ h=>by cases h) (fun _ _ _ h=>by cases h) (fun _ _ _ h=>by cases h) (fun _=>.nil) (fun _ _ a b h=>by rw[lf.go,Bool.and_eq_true] at h;exact .cons (a h.1) (b h.2)) z
end
abbrev Rho:=List (Option PyData)
inductive Ty where
 | cl:Ty
 | lst:Ty->Ty
 | tup:List Ty->Ty
 | io:Addr->Ty
 | rc:Option Addr->Str->List Str->List Ty->Ty
 | dc:Option Addr->List Str->Ty
 | nw:Ty
mutual
inductive DenO (K:PySem.W.Frag)(H C:Hp):Ty->V->PyData->List Addr->Prop
 | cl {v:V} {d:PyData}:Den K C v d->DenO K H C .cl v d []
 | non {t:Ty}:DenO K H C t .non .none []
 | lst {t:Ty} {a:Addr} {vs:List V} {ds:List PyData} {as:List Addr}:H a=some (.lst vs)->DenOs K H C t vs ds as->a∉as->DenO K H C (.lst t) (.ref a) (.list ds) (a::as)
 | tup {ts:List Ty} {a:Addr} {vs:List V} {ds:List PyData} {as:List Addr}:SqT K C a vs->DenOp K H C ts vs ds as->DenO K H C (.tup ts) (.ref a) (.tuple ds) as
 | io {l:Addr} {vs:List V} {ds:List PyData}:H l=some (.lst vs)->DenL K C vs ds->DenO K H C (.io l) (.ref l) (.list ds) [l]
 | rc {oa:Option Addr} {cls:Str} {ns:List Str} {ts:List Ty} {a D dx:Addr} {fs:List (Str×V)} {ds:List PyData} {as:List Addr}:(∀ b,oa=some b->b=a)->H a=some (.ins D dx fs)->PySem.W.nsIn K mainGlobals cls=some (some (.ref D))->fs.map (·.1)=ns->DenOp K H C ts (fs.map (·.2)) ds as->a∉as->DenO K H C (.rc oa cls ns ts) (.ref a) (objD cls ns ds) (a::as)
 | nw {v:V} {d:PyData} {as:List Addr}:(∀ p∈as,∃ vs:OwO,H p=some vs.ho)->Den K (del H fun b=>b∉as) v d->DenO K H C .nw v d as
 | dc {oa:Option Addr} {ns:List Str} {a:Addr} {kvs:List (Key×V)} {ds:List PyData}:(∀ b,oa=some b->b=a)->DctV H a kvs ns->DenL K C (kvs.map (·.2)) ds->DenO K H C (.dc oa ns) (.ref a) (dctD ns ds) [a]
inductive DenOs (K:PySem.W.Frag)(H C:Hp):Ty->List V->List PyData->List Addr->Prop
 | nil {t:Ty}:DenOs K H C t [] [] []
 | cons {t:Ty} {v:V} {d:PyData} {vs:List V} {ds:List PyData} {as bs:List Addr}:DenO K H C t v d as->DenOs K H C t vs ds bs->(∀ p∈as,p∉bs)->DenOs K H C t (v::vs) (d::ds) (as++bs)
inductive DenOp (K:PySem.W.Frag)(H C:Hp):List Ty->List V->List PyData->List Addr->Prop
 | nil:DenOp K H C [] [] [] []
 | cons {t:Ty} {ts:List Ty} {v:V} {d:PyData} {vs:List V} {ds:List PyData} {as bs:List Addr}:DenO K H C t v d as->DenOp K H C ts vs ds bs->(∀ p∈as,p∉bs)->DenOp K H C (t::ts) (v::vs) (d::ds) (as++bs)
end
section
variable {K:PySem.W.Frag}{H H' C C' G:Hp}
theorem same_on {G:Hp}{as:List Addr}(k:∀ p∈as,∀ o,H p=some o->G p=some o):Same (del H fun b=>b∉as) G:=fun b o e=>by
 by_cases h:b∈as
 ·rw[del_out (fun z=>z h)] at e
  exact k b h o e
 ·rw[del_in h] at e
  cases e
theorem same_on2 {G:Hp}{as:List Addr}(k:∀ p∈as,∀ o,H p=some o->G p=some o):Same (del H fun b=>b∉as) (del G fun b=>b∉as):=fun b o e=>by
 by_cases h:b∈as
 ·rw[del_out (fun z=>z h)] at e ⊢
  exact k b h o e
 ·rw[del_in h] at e
  cases e
theorem DenO.mono (c:Same C C'){t:Ty}{v:V}{d:PyData}{as:List Addr}(h:DenO K H C t v d as):(∀ p∈as,∀ o,H p=some o->H' p=some o)->DenO K H' C' t v d as:=
 DenO.rec (motive_1:=fun t v d as _=>(∀ p∈as,∀ o,H p=some o->H' p=some o)->DenO K H' C' t v d as) (motive_2:=fun t v d as _=>(∀ p∈as,∀ o,H p=some o->H' p=some o)->DenOs K H' C' t v d as) (motive_3:=fun t v d as _=>(∀ p∈as,∀ o,H p=some o->H' p=some o)->DenOp K H' C' t v d as) (fun h _=>.cl (h.mono c)) (fun _=>.non) (fun h _ n r k=>.lst (k _ List.mem_cons_self _ h) (r fun p hp=>k p (List.mem_cons_of_mem _ hp)) n) (fun h _ r k=>.tup (c.tup h) (r k)) (fun h q k=>.io (k _ (List.mem_singleton.mpr rfl) _ h) (q.mono c)) (fun ho h hn e _ n r k=>.rc ho (k _ List.mem_cons_self _ h) hn e (r fun p hp=>k p (List.mem_cons_of_mem _ hp)) n) (fun l q k=>.nw (fun p hp=>(l p hp).imp fun o e=>k p hp _ e) (q.mono (same_on2 k))) (fun ho h q k=>.dc ho ⟨k _ (List.mem_singleton.mpr rfl) _ h.1,h.2⟩ (q.mono c)) (fun _=>.nil) (fun _ _ n h r k=>.cons (h fun p hp=>k p (List.mem_append_left _ hp)) (r fun p hp=>k p (List.mem_append_right _ hp)) n) (fun _=>.nil) (fun _ _ n h r k=>.cons (h fun p hp=>k p (List.mem_append_left _ hp)) (r fun p hp=>k p (List.mem_append_right _ hp)) n) h
theorem DenOs.mono (c:Same C C'){t:Ty}{v:List V}{d:List PyData}{as:List Addr}(h:DenOs K H C t v d as):(∀ p∈as,∀ o,H p=some o->H' p=some o)->DenOs K H' C' t v d as:=
 DenOs.rec (motive_1:=fun t v d as _=>(∀ p∈as,∀ o,H p=some o->H' p=some o)->DenO K H' C' t v d as) (motive_2:=fun t v d as _=>(∀ p∈as,∀ o,H p=some o->H' p=some o)->DenOs K H' C' t v d as) (motive_3:=fun t v d as _=>(∀ p∈as,∀ o,H p=some o->H' p=some o)->DenOp K H' C' t v d as) (fun h _=>.cl (h.mono c)) (fun _=>.non) (fun h _ n r k=>.lst (k _ List.mem_cons_self _ h) (r fun p hp=>k p (List.mem_cons_of_mem _ hp)) n) (fun h _ r k=>.tup (c.tup h) (r k)) (fun h q k=>.io (k _ (List.mem_singleton.mpr rfl) _ h) (q.mono c)) (fun ho h hn e _ n r k=>.rc ho (k _ List.mem_cons_self _ h) hn e (r fun p hp=>k p (List.mem_cons_of_mem _ hp)) n) (fun l q k=>.nw (fun p hp=>(l p hp).imp fun o e=>k p hp _ e) (q.mono (same_on2 k))) (fun ho h q k=>.dc ho ⟨k _ (List.mem_singleton.mpr rfl) _ h.1,h.2⟩ (q.mono c)) (fun _=>.nil) (fun _ _ n h r k=>.cons (h fun p hp=>k p (List.mem_append_left _ hp)) (r fun p hp=>k p (List.mem_append_right _ hp)) n) (fun _=>.nil) (fun _ _ n h r k=>.cons (h fun p hp=>k p (List.mem_append_left _ hp)) (r fun p hp=>k p (List.mem_append_right _ hp)) n) h
theorem DenOp.mono (c:Same C C'){t:List Ty}{v:List V}{d:List PyData}{as:List Addr}(h:DenOp K H C t v d as):(∀ p∈as,∀ o,H p=some o->H' p=some o)->DenOp K H' C' t v d as:=
 DenOp.rec (motive_1:=fun t v d as _=>(∀ p∈as,∀ o,H p=some o->H' p=some o)->DenO K H' C' t v d as) (motive_2:=fun t v d as _=>(∀ p∈as,∀ o,H p=some o->H' p=some o)->DenOs K H' C' t v d as) (motive_3:=fun t v d as _=>(∀ p∈as,∀ o,H p=some o->H' p=some o)->DenOp K H' C' t v d as) (fun h _=>.cl (h.mono c)) (fun _=>.non) (fun h _ n r k=>.lst (k _ List.mem_cons_self _ h) (r fun p hp=>k p (List.mem_cons_of_mem _ hp)) n) (fun h _ r k=>.tup (c.tup h) (r k)) (fun h q k=>.io (k _ (List.mem_singleton.mpr rfl) _ h) (q.mono c)) (fun ho h hn e _ n r k=>.rc ho (k _ List.mem_cons_self _ h) hn e (r fun p hp=>k p (List.mem_cons_of_mem _ hp)) n) (fun l q k=>.nw (fun p hp=>(l p hp).imp fun o e=>k p hp _ e) (q.mono (same_on2 k))) (fun ho h q k=>.dc ho ⟨k _ (List.mem_singleton.mpr rfl) _ h.1,h.2⟩ (q.mono c)) (fun _=>.nil) (fun _ _ n h r k=>.cons (h fun p hp=>k p (List.mem_append_left _ hp)) (r fun p hp=>k p (List.mem_append_right _ hp)) n) (fun _=>.nil) (fun _ _ n h r k=>.cons (h fun p hp=>k p (List.mem_append_left _ hp)) (r fun p hp=>k p (List.mem_append_right _ hp)) n) h
theorem DenO.raw (c:Same C G){t:Ty}{v:V}{d:PyData}{as:List Addr}(h:DenO K H C t v d as):(∀ p∈as,∀ o,H p=some o->G p=some o)->Den K G v d:=
 DenO.rec (motive_1:=fun t v d as _=>(∀ p∈as,∀ o,H p=some o->G p=some o)->Den K G v d) (motive_2:=fun t v d as _=>(∀ p∈as,∀ o,H p=some o->G p=some o)->DenL K G v d) (motive_3:=fun t v d as _=>(∀ p∈as,∀ o,H p=some o->G p=some o)->DenL K G v d) (fun h _=>h.mono c) (fun _=>.non) (fun h _ n r k=>.lst (SqL.of (k _ List.mem_cons_self _ h)) (r fun p hp=>k p (List.mem_cons_of_mem _ hp))) (fun h _ r k=>.tup (c.tup h) (r k)) (fun h q k=>.lst (SqL.of (k _ (List.mem_singleton.mpr rfl) _ h)) (q.mono c)) (fun ho h hn e _ n r k=>e▸Den.obj ⟨_,_,k _ List.mem_cons_self _ h,hn⟩ (r fun p hp=>k p (List.mem_cons_of_mem _ hp))) (fun _ q k=>q.mono (same_on k)) (fun _ h q k=>.dct ⟨k _ (List.mem_singleton.mpr rfl) _ h.1,h.2⟩ (q.mono c)) (fun _=>.nil) (fun _ _ n h r k=>.cons (h fun p hp=>k p (List.mem_append_left _ hp)) (r fun p hp=>k p (List.mem_append_right _ hp))) (fun _=>.nil) (fun _ _ n h r k=>.cons (h fun p hp=>k p (List.mem_append_left _ hp)) (r fun p hp=>k p (List.mem_append_right _ hp))) h
theorem DenOs.raw (c:Same C G){t:Ty}{v:List V}{d:List PyData}{as:List Addr}(h:DenOs K H C t v d as):(∀ p∈as,∀ o,H p=some o->G p=some o)->DenL K G v d:=
 DenOs.rec (motive_1:=fun t v d as _=>(∀ p∈as,∀ o,H p=some o->G p=some o)->Den K G v d) (motive_2:=fun t v d as _=>(∀ p∈as,∀ o,H p=some o->G p=some o)->DenL K G v d) (motive_3:=fun t v d as _=>(∀ p∈as,∀ o,H p=some o->G p=some o)->DenL K G v d) (fun h _=>h.mono c) (fun _=>.non) (fun h _ n r k=>.lst (SqL.of (k _ List.mem_cons_self _ h)) (r fun p hp=>k p (List.mem_cons_of_mem _ hp))) (fun h _ r k=>.tup (c.tup h) (r k)) (fun h q k=>.lst (SqL.of (k _ (List.mem_singleton.mpr rfl) _ h)) (q.mono c)) (fun ho h hn e _ n r k=>e▸Den.obj ⟨_,_,k _ List.mem_cons_self _ h,hn⟩ (r fun p hp=>k p (List.mem_cons_of_mem _ hp))) (fun _ q k=>q.mono (same_on k)) (fun _ h q k=>.dct ⟨k _ (List.mem_singleton.mpr rfl) _ h.1,h.2⟩ (q.mono c)) (fun _=>.nil) (fun _ _ n h r k=>.cons (h fun p hp=>k p (List.mem_append_left _ hp)) (r fun p hp=>k p (List.mem_append_right _ hp))) (fun _=>.nil) (fun _ _ n h r k=>.cons (h fun p hp=>k p (List.mem_append_left _ hp)) (r fun p hp=>k p (List.mem_append_right _ hp))) h
theorem DenOp.raw (c:Same C G){t:List Ty}{v:List V}{d:List PyData}{as:List Addr}(h:DenOp K H C t v d as):(∀ p∈as,∀ o,H p=some o->G p=some o)->DenL K G v d:=
 DenOp.rec (motive_1:=fun t v d as _=>(∀ p∈as,∀ o,H p=some o->G p=some o)->Den K G v d) (motive_2:=fun t v d as _=>(∀ p∈as,∀ o,H p=some o->G p=some o)->DenL K G v d) (motive_3:=fun t v d as _=>(∀ p∈as,∀ o,H p=some o->G p=some o)->DenL K G v d) (fun h _=>h.mono c) (fun _=>.non) (fun h _ n r k=>.lst (SqL.of (k _ List.mem_cons_self _ h)) (r fun p hp=>k p (List.mem_cons_of_mem _ hp))) (fun h _ r k=>.tup (c.tup h) (r k)) (fun h q k=>.lst (SqL.of (k _ (List.mem_singleton.mpr rfl) _ h)) (q.mono c)) (fun ho h hn e _ n r k=>e▸Den.obj ⟨_,_,k _ List.mem_cons_self _ h,hn⟩ (r fun p hp=>k p (List.mem_cons_of_mem _ hp))) (fun _ q k=>q.mono (same_on k)) (fun _ h q k=>.dct ⟨k _ (List.mem_singleton.mpr rfl) _ h.1,h.2⟩ (q.mono c)) (fun _=>.nil) (fun _ _ n h r k=>.cons (h fun p hp=>k p (List.mem_append_left _ hp)) (r fun p hp=>k p (List.mem_append_right _ hp))) (fun _=>.nil) (fun _ _ n h r k=>.cons (h fun p hp=>k p (List.mem_append_left _ hp)) (r fun p hp=>k p (List.mem_append_right _ hp))) h
theorem DenO.lists {t:Ty}{v:V}{d:PyData}{as:List Addr}(h:DenO K H C t v d as):∀ p∈as,∃ vs:OwO,H p=some vs.ho:=
 DenO.rec (motive_1:=fun t v d as _=>∀ p∈as,∃ vs:OwO,H p=some vs.ho) (motive_2:=fun t v d as _=>∀ p∈as,∃ vs:OwO,H p=some vs.ho) (motive_3:=fun t v d as _=>∀ p∈as,∃ vs:OwO,H p=some vs.ho) (fun _ p hp=>absurd hp List.not_mem_nil) (fun p hp=>absurd hp List.not_mem_nil) (fun h _ n r p hp=>(List.mem_cons.mp hp).elim (fun z=>⟨.l _,z▸h⟩) (r p)) (fun _ _ r p hp=>r p hp) (fun h _ p hp=>⟨.l _,(List.mem_singleton.mp hp)▸h⟩) (fun _ h _ _ _ n r p hp=>(List.mem_cons.mp hp).elim (fun z=>⟨.i _ _ _,z▸h⟩) (r p)) (fun l _ p hp=>l p hp) (fun _ h _ p hp=>⟨.d _,(List.mem_singleton.mp hp)▸h.1⟩) (fun p hp=>absurd hp List.not_mem_nil) (fun _ _ n h r p hp=>(List.mem_append.mp hp).elim (h p) (r p)) (fun p hp=>absurd hp List.not_mem_nil) (fun _ _ n h r p hp=>(List.mem_append.mp hp).elim (h p) (r p)) h
theorem DenOs.lists {t:Ty}{v:List V}{d:List PyData}{as:List Addr}(h:DenOs K H C t v d as):∀ p∈as,∃ vs:OwO,H p=some vs.ho:=
 DenOs.rec (motive_1:=fun t v d as _=>∀ p∈as,∃ vs:OwO,H p=some vs.ho) (motive_2:=fun t v d as _=>∀ p∈as,∃ vs:OwO,H p=some vs.ho) (motive_3:=fun t v d as _=>∀ p∈as,∃ vs:OwO,H p=some vs.ho) (fun _ p hp=>absurd hp List.not_mem_nil) (fun p hp=>absurd hp List.not_mem_nil) (fun h _ n r p hp=>(List.mem_cons.mp hp).elim (fun z=>⟨.l _,z▸h⟩) (r p)) (fun _ _ r p hp=>r p hp) (fun h _ p hp=>⟨.l _,(List.mem_singleton.mp hp)▸h⟩) (fun _ h _ _ _ n r p hp=>(List.mem_cons.mp hp).elim (fun z=>⟨.i _ _ _,z▸h⟩) (r p)) (fun l _ p hp=>l p hp) (fun _ h _ p hp=>⟨.d _,(List.mem_singleton.mp hp)▸h.1⟩) (fun p hp=>absurd hp List.not_mem_nil) (fun _ _ n h r p hp=>(List.mem_append.mp hp).elim (h p) (r p)) (fun p hp=>absurd hp List.not_mem_nil) (fun _ _ n h r p hp=>(List.mem_append.mp hp).elim (h p) (r p)) h
theorem DenOp.lists {t:List Ty}{v:List V}{d:List PyData}{as:List Addr}(h:DenOp K H C t v d as):∀ p∈as,∃ vs:OwO,H p=some vs.ho:=
 DenOp.rec (motive_1:=fun t v d as _=>∀ p∈as,∃ vs:OwO,H p=some vs.ho) (motive_2:=fun t v d as _=>∀ p∈as,∃ vs:OwO,H p=some vs.ho) (motive_3:=fun t v d as _=>∀ p∈as,∃ vs:OwO,H p=some vs.ho) (fun _ p hp=>absurd hp List.not_mem_nil) (fun p hp=>absurd hp List.not_mem_nil) (fun h _ n r p hp=>(List.mem_cons.mp hp).elim (fun z=>⟨.l _,z▸h⟩) (r p)) (fun _ _ r p hp=>r p hp) (fun h _ p hp=>⟨.l _,(List.mem_singleton.mp hp)▸h⟩) (fun _ h _ _ _ n r p hp=>(List.mem_cons.mp hp).elim (fun z=>⟨.i _ _ _,z▸h⟩) (r p)) (fun l _ p hp=>l p hp) (fun _ h _ p hp=>⟨.d _,(List.mem_singleton.mp hp)▸h.1⟩) (fun p hp=>absurd hp List.not_mem_nil) (fun _ _ n h r p hp=>(List.mem_append.mp hp).elim (h p) (r p)) (fun p hp=>absurd hp List.not_mem_nil) (fun _ _ n h r p hp=>(List.mem_append.mp hp).elim (h p) (r p)) h
theorem DenL.os {vs:List V}{ds:List PyData}(h:DenL K C vs ds):DenOs K H C .cl vs ds []:=
 DenL.ind (M:=fun vs ds=>DenOs K H C .cl vs ds []) .nil (fun h _ ih=>.cons (as:=[]) (.cl h) ih (fun p hp=>absurd hp List.not_mem_nil)) h
theorem DenOs.ind {t:Ty}{P:List V->List PyData->List Addr->Prop}(h0:P [] [] [])(h1:∀ {v:V} {d:PyData} {vs:List V} {ds:List PyData} {as bs:List Addr},DenO K H C t v d as->DenOs K H C t vs ds bs->(∀ p∈as,p∉bs)->P vs ds bs->P (v::vs) (d::ds) (as++bs)){vs:List V}{ds:List PyData}{as:List Addr}(h:DenOs K H C t vs ds as):P vs ds as:=
 DenOs.rec (motive_1:=fun _ _ _ _ _=>True) (motive_2:=fun t' vs ds as _=>t'=t->P vs ds as) (motive_3:=fun _ _ _ _ _=>True) (fun _=>trivial) trivial (fun _ _ _ _=>trivial) (fun _ _ _=>trivial) (fun _ _=>trivial) (fun _ _ _ _ _ _ _=>trivial) (fun _ _=>trivial) (fun _ _ _=>trivial) (fun _=>h0) (fun hx r n _ ih e=>by subst e;exact h1 hx r n (ih rfl)) trivial (fun _ _ _ _ _=>trivial) h rfl
theorem DenOp.ind {P:List Ty->List V->List PyData->List Addr->Prop}(h0:P [] [] [] [])(h1:∀ {t:Ty} {ts:List Ty} {v:V} {d:PyData} {vs:List V} {ds:List PyData} {as bs:List Addr},DenO K H C t v d as->DenOp K H C ts vs ds bs->(∀ p∈as,p∉bs)->P ts vs ds bs->P (t::ts) (v::vs) (d::ds) (as++bs)){ts:List Ty}{vs:List V}{ds:List PyData}{as:List Addr}(h:DenOp K H C ts vs ds as):P ts vs ds as:=
 DenOp.rec (motive_1:=fun _ _ _ _ _=>True) (motive_2:=fun _ _ _ _ _=>True) (motive_3:=fun ts vs ds as _=>P ts vs ds as) (fun _=>trivial) trivial (fun _ _ _ _=>trivial) (fun _ _ _=>trivial) (fun _ _=>trivial) (fun _ _ _ _ _ _ _=>trivial) (fun _ _=>trivial) (fun _ _ _=>trivial) trivial (fun _ _ _ _ _=>trivial) h0 (fun h r n _ ih=>h1 h r n ih) h
theorem DenOs.dl {vs:List V}{ds:List PyData}{as:List Addr}(h:DenOs K H C .cl vs ds as):DenL K C vs ds∧as=[]:=
 DenOs.rec (motive_1:=fun t v d as _=>t=.cl->Den K C v d∧as=[]) (motive_2:=fun t vs ds as _=>t=.cl->DenL K C vs ds∧as=[]) (motive_3:=fun _ _ _ _ _=>True) (fun h _=>⟨h,rfl⟩) (fun _=>⟨.non,rfl⟩) (fun _ _ _ _ e=>Ty.noConfusion e) (fun _ _ _ e=>Ty.noConfusion e) (fun _ _ e=>Ty.noConfusion e) (fun _ _ _ _ _ _ _ e=>Ty.noConfusion e) (fun _ _ e=>Ty.noConfusion e) (fun _ _ _ e=>Ty.noConfusion e) (fun _=>⟨.nil,rfl⟩) (fun _ _ n h r e=>⟨.cons (h e).1 (r e).1,by rw[(h e).2,(r e).2];rfl⟩) trivial (fun _ _ _ _ _=>trivial) h rfl
theorem DenO.den {v:V}{d:PyData}{as:List Addr}(h:DenO K H C .cl v d as):Den K C v d:=by
 cases h with
 | cl h=>exact h
 | non=>exact .non
theorem DenOs.length {t:Ty}{vs:List V}{ds:List PyData}{as:List Addr}(h:DenOs K H C t vs ds as):vs.length=ds.length:=
 DenOs.rec (motive_1:=fun _ _ _ _ _=>True) (motive_2:=fun _ vs ds _ _=>vs.length=ds.length) (motive_3:=fun _ _ _ _ _=>True) (fun _=>trivial) trivial (fun _ _ _ _=>trivial) (fun _ _ _=>trivial) (fun _ _=>trivial) (fun _ _ _ _ _ _ _=>trivial) (fun _ _=>trivial) (fun _ _ _=>trivial) rfl (fun _ _ _ _ r=>congrArg (·+1) r) trivial (fun _ _ _ _ _=>trivial) h
theorem DenOp.length {ts:List Ty}{vs:List V}{ds:List PyData}{as:List Addr}(h:DenOp K H C ts vs ds as):vs.length=ds.length:=
 DenOp.rec (motive_1:=fun _ _ _ _ _=>True) (motive_2:=fun _ _ _ _ _=>True) (motive_3:=fun _ vs ds _ _=>vs.length=ds.length) (fun _=>trivial) trivial (fun _ _ _ _=>trivial) (fun _ _ _=>trivial) (fun _ _=>trivial) (fun _ _ _ _ _ _ _=>trivial) (fun _ _=>trivial) (fun _ _ _=>trivial) trivial (fun _ _ _ _ _=>trivial) rfl (fun _ _ _ _ r=>congrArg (·+1) r) h
theorem DenOs.item {t:Ty}{vs:List V}{ds:List PyData}{as:List Addr}(h:DenOs K H C t vs ds as):∀ {j:Nat} {d:PyData},ds[j]?=some d ->
  ∃ v bs,vs[j]?=some v∧DenO K H C t v d bs∧(∀ p∈bs,p∈as)∧∀ (H' C':Hp) (e:PyData),Same C C'->DenO K H' C' t v e bs->(∀ p∈as,p∉bs->∀ o,H p=some o->H' p=some o)->DenOs K H' C' t vs (ds.set j e) as:=
 DenOs.ind (P:=fun vs ds as=>∀ {j:Nat} {d:PyData},ds[j]?=some d->∃ v bs,vs[j]?=some v∧DenO K H C t v d bs∧(∀ p∈bs,p∈as)∧∀ (H' C':Hp) (e:PyData),Same C C'->DenO K H' C' t v e bs->(∀ p∈as,p∉bs->∀ o,H p=some o->H' p=some o)->DenOs K H' C' t vs (ds.set j e) as)
  (fun e=>L2.no_ns e) (fun {v d0 vs ds as bs} h r n ih {j d} e=>by
   cases j with
   | zero=>
    obtain rfl:=Option.some.inj e
    exact ⟨v,as,rfl,h,(fun p hp=>List.mem_append_left _ hp),(fun H' C' e c h' k=>.cons h' (r.mono c fun p hp o q=>k p (List.mem_append_right _ hp) (fun z=>n p z hp) o q) n)⟩
   | succ j=>
    obtain⟨w,cs,h1,h2,h3,h4⟩:=ih (j:=j) (d:=d) e
    exact ⟨w,cs,h1,h2,(fun p hp=>List.mem_append_right _ (h3 p hp)),(fun H' C' e c h' k=>.cons (h.mono c fun p hp o q=>k p (List.mem_append_left _ hp) (fun z=>n p hp (h3 p z)) o q) (h4 H' C' e c h' fun p hp hn o q=>k p (List.mem_append_right _ hp) hn o q) n)⟩) h
theorem DenOp.item {ts:List Ty}{vs:List V}{ds:List PyData}{as:List Addr}(h:DenOp K H C ts vs ds as):∀ {j:Nat} {d:PyData},ds[j]?=some d ->
  ∃ t v bs,ts[j]?=some t∧vs[j]?=some v∧DenO K H C t v d bs∧(∀ p∈bs,p∈as)∧∀ (H' C':Hp) (e:PyData),Same C C'->DenO K H' C' t v e bs->(∀ p∈as,p∉bs->∀ o,H p=some o->H' p=some o)->DenOp K H' C' ts vs (ds.set j e) as:=
 DenOp.ind (P:=fun ts vs ds as=>∀ {j:Nat} {d:PyData},ds[j]?=some d->∃ t v bs,ts[j]?=some t∧vs[j]?=some v∧DenO K H C t v d bs∧(∀ p∈bs,p∈as)∧∀ (H' C':Hp) (e:PyData),Same C C'->DenO K H' C' t v e bs->(∀ p∈as,p∉bs->∀ o,H p=some o->H' p=some o)->DenOp K H' C' ts vs (ds.set j e) as)
  (fun e=>L2.no_ns e) (fun {t ts v d0 vs ds as bs} h r n ih {j d} e=>by
   cases j with
   | zero=>
    obtain rfl:=Option.some.inj e
    exact ⟨t,v,as,rfl,rfl,h,(fun p hp=>List.mem_append_left _ hp),(fun H' C' e c h' k=>.cons h' (r.mono c fun p hp o q=>k p (List.mem_append_right _ hp) (fun z=>n p z hp) o q) n)⟩
   | succ j=>
    obtain⟨t',w,cs,h0,h1,h2,h3,h4⟩:=ih (j:=j) (d:=d) e
    exact ⟨t',w,cs,h0,h1,h2,(fun p hp=>List.mem_append_right _ (h3 p hp)),(fun H' C' e c h' k=>.cons (h.mono c fun p hp o q=>k p (List.mem_append_left _ hp) (fun z=>n p hp (h3 p z)) o q) (h4 H' C' e c h' fun p hp hn o q=>k p (List.mem_append_right _ hp) hn o q) n)⟩) h
def isL:PyData->Option (List PyData)
 | .list ds=>some ds
 | _=>none
def isTu:PyData->Option (List PyData)
 | .tuple ds=>some ds
 | _=>none
def itsD:PyData->List PyData
 | .list ds=>ds
 | .tuple ds=>ds
 | _=>[]
def kidD (ds:List PyData)(k:Int):Option PyData:=(ixN ds.length k).bind fun j=>ds[j]?
def getP:PyData->List Int->Option (List PyData)
 | d,[]=>isL d
 | d,k::r=>(kidD (itsD d) k).bind fun e=>getP e r
def chgL (ds:List PyData)(k:Int)(f:PyData->PyData):List PyData:=(ixN ds.length k).elim ds fun j=>ds.set j (f (ds.getD j .none))
def chgD (d:PyData)(k:Int)(f:PyData->PyData):PyData:=match d with
 | .list ds=>.list (chgL ds k f)
 | .tuple ds=>.tuple (chgL ds k f)
 | d=>d
def setL (d:PyData)(es:List PyData):PyData:=match d with
 | .list _=>.list es
 | d=>d
def setP:PyData->List Int->List PyData->PyData
 | d,[],es=>setL d es
 | d,k::r,es=>chgD d k fun e=>setP e r es
def Ty.isCl:Ty->Bool
 | .cl=>true
 | _=>false
def Ty.leaf:Ty->Bool
 | .lst t=>t.isCl
 | .io _=>true
 | _=>false
def tyK (T:Ty)(d:PyData)(k:Int):Option (Ty×PyData):=match T with
 | .lst t=>(isL d).bind fun ds=>(kidD ds k).map fun e=>(t,e)
 | .tup ts=>(isTu d).bind fun ds=>(ixN ds.length k).bind fun j=>(ds[j]?).map fun e=>(ts.getD j .cl,e)
 | _=>none
def tyP:Ty->PyData->List Int->Bool
 | T,d,[]=>T.leaf&&(isL d).isSome
 | T,d,k::r=>(tyK T d k).any fun q=>tyP q.1 q.2 r
theorem kid_some {ds:List PyData}{k:Int}{β:Type}{g:PyData->Option β}{r:β}(h:(kidD ds k).bind g=some r):∃ j d,ixN ds.length k=some j∧ds[j]?=some d∧g d=some r:=by
 unfold kidD at h
 cases hj:ixN ds.length k with
 | none=>rw[hj] at h;exact L2.no_ns h
 | some j=>
  rw[hj,Option.bind_some] at h
  cases hd:ds[j]? with
  | none=>rw[hd] at h;exact L2.no_ns h
  | some d=>rw[hd] at h;exact⟨j,d,rfl,hd,h⟩
theorem kid_is {ds:List PyData}{k:Int}{j:Nat}{d:PyData}(h1:ixN ds.length k=some j)(h2:ds[j]?=some d):kidD ds k=some d:=by
 unfold kidD
 rw[h1,Option.bind_some,h2]
inductive AtP (K:PySem.W.Frag)(H C:Hp):V->List Int->Addr->Prop
 | here {l:Addr}:AtP K H C (.ref l) [] l
 | inL {a:Addr} {vs:List V} {k:Int} {r:List Int} {w:V} {l:Addr}:H a=some (.lst vs)->atI vs k=some w->AtP K H C w r l->AtP K H C (.ref a) (k::r) l
 | inT {a:Addr} {vs:List V} {k:Int} {r:List Int} {w:V} {l:Addr}:SqT K C a vs->atI vs k=some w->AtP K H C w r l->AtP K H C (.ref a) (k::r) l
theorem getD_some {ds:List PyData}{j:Nat}{d:PyData}(h:ds[j]?=some d):ds.getD j .none=d:=by
 rw[List.getD_eq_getElem?_getD,h];rfl
theorem chgL_is {ds:List PyData}{k:Int}{j:Nat}{d:PyData}{f:PyData->PyData}(h1:ixN ds.length k=some j)(h2:ds[j]?=some d):chgL ds k f=ds.set j (f d):=by
 unfold chgL
 rw[h1,Option.elim_some,getD_some h2]
theorem DenO.focus (path:List Int):∀ {T:Ty} {v:V} {d:PyData} {as:List Addr} {ds:List PyData},DenO K H C T v d as->tyP T d path=true->getP d path=some ds ->
  ∃ l vs,AtP K H C v path l∧H l=some (.lst vs)∧DenL K C vs ds∧l∈as∧∀ (H' C':Hp) (ws:List V) (es:List PyData),Same C C'->H' l=some (.lst ws)->(∀ p∈as,p≠l->∀ o,H p=some o->H' p=some o)->DenL K C' ws es->DenO K H' C' T v (setP d path es) as:=by
 induction path with
 | nil=>
  intro T v d as ds h ht hg
  cases h with
  | cl h=>exact L2.no_ft ht
  | non=>exact L2.no_ns hg
  | tup h r=>exact L2.no_ns hg
  | @lst t a vs ds' as h r n=>
   have htc:t=.cl:=by cases t <;> first | rfl | exact L2.no_ft ht
   subst htc
   obtain rfl:=Option.some.inj hg
   obtain⟨h1,zq1⟩:=r.dl
   subst zq1
   exact ⟨a,vs,.here,h,h1,List.mem_cons_self,(fun H' C' ws es c hw k he=>.lst hw he.os n)⟩
  | @io l vs ds' h q=>
   obtain rfl:=Option.some.inj hg
   exact ⟨l,vs,.here,h,q,List.mem_singleton.mpr rfl,(fun H' C' ws es c hw k he=>.io hw he)⟩
  | rc _ _ _ _ _ _=>exact L2.no_ft ht
  | nw _ _=>exact L2.no_ft ht
  | dc _ _ _=>exact L2.no_ft ht
 | cons k r ih=>
  intro T v d as ds h ht hg
  cases h with
  | cl h=>exact L2.no_ft ht
  | io h q=>exact L2.no_ft ht
  | rc _ _ _ _ _ _=>exact L2.no_ft ht
  | nw _ _=>exact L2.no_ft ht
  | dc _ _ _=>exact L2.no_ft ht
  | non=>cases T <;> exact L2.no_ft ht
  | @lst t a vs ds' as h q n=>
   obtain⟨j,d',hj,hd,hg⟩:=kid_some (ds:=ds') hg
   have ht':tyP t d' r=true:=by
    have e:tyK (.lst t) (.list ds') k=some (t,d'):=congrArg (Option.map fun e=>(t,e)) (kid_is hj hd)
    rw[tyP,e] at ht
    exact ht
   obtain⟨w,bs,h1,h2,h3,h4⟩:=q.item hd
   obtain⟨l,us,g1,g2,g3,g4,g5⟩:=ih h2 ht' hg
   have hat:atI vs k=some w:=by
    unfold atI
    rw[q.length,hj]
    exact h1
   refine ⟨l,us,.inL h hat g1,g2,g3,List.mem_cons_of_mem _ (h3 l g4),(fun H' C' ws es c hw kk he=>?_)⟩
   have hal:a≠l:=fun z=>n (z▸h3 l g4)
   rw[show setP (.list ds') (k::r) es=.list (ds'.set j (setP d' r es)) from congrArg PyData.list (chgL_is hj hd)]
   exact .lst (kk a List.mem_cons_self hal _ h) (h4 H' C' _ c (g5 H' C' ws es c hw (fun p hp hne o qq=>kk p (List.mem_cons_of_mem _ (h3 p hp)) hne o qq) he) fun p hp hn o qq=>kk p (List.mem_cons_of_mem _ hp) (fun z=>hn (z▸g4)) o qq) n
  | @tup ts a vs ds' as h q=>
   obtain⟨j,d',hj,hd,hg⟩:=kid_some (ds:=ds') hg
   obtain⟨t,w,bs,h0,h1,h2,h3,h4⟩:=q.item hd
   have ht':tyP t d' r=true:=by
    have e:tyK (.tup ts) (.tuple ds') k=some (t,d'):=by
     show ((ixN ds'.length k).bind fun j=>(ds'[j]?).map fun e=>(ts.getD j .cl,e))=_
     rw[hj,Option.bind_some,hd,List.getD_eq_getElem?_getD,h0]
     rfl
    rw[tyP,e] at ht
    exact ht
   obtain⟨l,us,g1,g2,g3,g4,g5⟩:=ih h2 ht' hg
   have hat:atI vs k=some w:=by
    unfold atI
    rw[q.length,hj]
    exact h1
   refine ⟨l,us,.inT h hat g1,g2,g3,h3 l g4,(fun H' C' ws es c hw kk he=>?_)⟩
   rw[show setP (.tuple ds') (k::r) es=.tuple (ds'.set j (setP d' r es)) from congrArg PyData.tuple (chgL_is hj hd)]
   exact .tup (c.tup h) (h4 H' C' _ c (g5 H' C' ws es c hw (fun p hp hne o qq=>kk p (h3 p hp) hne o qq) he) fun p hp hn o qq=>kk p hp (fun z=>hn (z▸g4)) o qq)
end
structure Ow where
 s:List (Nat×Ty)
 r:Ty:=.cl
def OwnA (K:PySem.W.Frag)(O:Ow)(hid:Addr->Prop)(σ:St)(H:Hp)(ρ:Rho)(ow:List Addr)(A:Nat->List Addr):Prop:=
 (∀ i t d,O.s.lookup i=some t->ρ[i]?=some (some d)->∃ v,σ[i]?=some (some v)∧DenO K H (del H (uni hid ow)) t v d (A i))∧(∀ i j p,i≠j->p∈A i->p∉A j)∧(∀ i p,p∈A i->p∈ow)
structure EnvOk (K:PySem.W.Frag)(O:Ow)(hid:Addr->Prop)(H0:Hp)(σ:St)(H:Hp)(ρ:Rho)(ow:List Addr):Prop where
 len:ρ.length=σ.length
 base:Same H0 (del H fun b=>b∈ow)
 val:∀ i d,O.s.lookup i=none->ρ[i]?=some (some d)->∃ v,σ[i]?=some (some v)∧Den K (del H (uni hid ow)) v d
 own:∃ A,OwnA K O hid σ H ρ ow A
 isl:∀ l∈ow,(∃ vs:OwO,H l=some vs.ho)∧¬ hid l
 ishL:∀ b,hid b->∃ vs:OwO,H b=some vs.ho
 emp:O.s=[]->ow=[]
section
variable {K:PySem.W.Frag}{O:Ow}{hid:Addr->Prop}{H0 H H':Hp}{σ:St}{ρ:Rho}{ow:List Addr}{A:Nat->List Addr}
theorem OwnA.mono (a:OwnA K O hid σ H ρ ow A)(h:Same H H'):OwnA K O hid σ H' ρ ow A:=
 ⟨fun i t d hi hd=>let ⟨v,q,r⟩:=a.1 i t d hi hd;⟨v,q,r.mono (del_mono h _) fun p _ o e=>h p o e⟩,a.2⟩
theorem EnvOk.mono (e:EnvOk K O hid H0 σ H ρ ow)(h:Same H H'):EnvOk K O hid H0 σ H' ρ ow:=
 ⟨e.len,e.base.trans (del_mono h _),fun i d hi hd=>let ⟨v,a,b⟩:=e.val i d hi hd;⟨v,a,b.mono (del_mono h _)⟩,
  let ⟨A,a⟩:=e.own;⟨A,a.mono h⟩,fun l hl=>let ⟨⟨vs,q⟩,n⟩:=e.isl l hl;⟨⟨vs,h _ _ q⟩,n⟩,
  fun b hb=>let ⟨vs,q⟩:=e.ishL b hb;⟨vs,h _ _ q⟩,e.emp⟩
theorem EnvOk.ish (e:EnvOk K O hid H0 σ H ρ ow):∀ b,hid b->H b≠none:=fun b hb z=>by
 obtain⟨vs,q⟩:=e.ishL b hb
 rw[z] at q;cases q
theorem EnvOk.uniL (e:EnvOk K O hid H0 σ H ρ ow):∀ b,uni hid ow b->∃ vs:OwO,H b=some vs.ho:=fun b hb=>by
 rcases hb with hb | hb
 ·exact e.ishL b hb
 ·exact (e.isl b hb).1
theorem EnvOk.fresh (e:EnvOk K O hid H0 σ H ρ ow){p:Addr}(h:H p=none):¬ uni hid ow p:=by
 rintro (z | z)
 ·exact e.ish p z h
 ·obtain⟨⟨vs,q⟩,_⟩:=e.isl p z
  rw[h] at q;cases q
theorem EnvOk.lists (e:EnvOk K O hid H0 σ H ρ ow):∀ l∈ow,∃ vs:OwO,H l=some vs.ho:=fun l h=>(e.isl l h).1
theorem EnvOk.ow0 (e:EnvOk K O hid H0 σ H ρ ow){p:Addr}(h:p∈ow):H0 p=none:=by
 cases q:H0 p with
 | none=>rfl
 | some o=>
  have:=e.base p o q
  rw[del_in h] at this
  exact L2.no_ns this
theorem EnvOk.raw (e:EnvOk K O hid H0 σ H ρ ow){i:Nat}{d:PyData}(h:ρ[i]?=some (some d)):∃ v,σ[i]?=some (some v)∧Den K (del H hid) v d:=by
 cases hi:O.s.lookup i with
 | some t=>
  obtain⟨A,a1,a2,a3⟩:=e.own
  obtain⟨v,q,r⟩:=a1 i t d hi h
  exact⟨v,q,r.raw (del_uni _ _ _) fun p hp o q=>by rw[del_out (e.isl p (a3 i p hp)).2];exact q⟩
 | none=>
  obtain⟨v,a,b⟩:=e.val i d hi h
  exact⟨v,a,b.mono (del_uni _ _ _)⟩
theorem EnvOk.newAt (e:EnvOk K O hid H0 σ H ρ ow){p:Addr}{o:HO}(h:H p=none):del (upd H p o) (uni hid ow) p=some o:=by rw[del_out (e.fresh h),upd_same]
theorem set_two {ρ:Rho}{i j:Nat}{d:PyData}{x:Option PyData}(q:(ρ.set i (some d))[j]?=some x):(j=i∧x=some d∧i<ρ.length)∨(j≠i∧ρ[j]?=some x):=by
 by_cases hj:j=i
 ·subst hj
  have hl:j<ρ.length:=by have:=(List.getElem?_eq_some_iff.mp q).1;simpa using this
  rw[List.getElem?_set_self hl] at q
  exact .inl ⟨rfl,(Option.some.inj q).symm,hl⟩
 ·rw[List.getElem?_set_ne (Ne.symm hj)] at q
  exact .inr ⟨hj,q⟩
theorem EnvOk.set (e:EnvOk K O hid H0 σ H ρ ow){i:Nat}{v:V}{d:PyData}(hi:O.s.lookup i=none)(h:Den K (del H (uni hid ow)) v d):EnvOk K O hid H0 (σ.set i (some v)) H (ρ.set i (some d)) ow:=by
 refine⟨by simpa using e.len,e.base,fun j x hj q=>?_,?_,e.isl,e.ishL,e.emp⟩
 ·rcases set_two q with ⟨rfl,z,hl⟩ | ⟨hne,z⟩
  ·obtain rfl:=Option.some.inj z
   exact⟨v,List.getElem?_set_self (by rw[← e.len];exact hl),h⟩
  ·obtain⟨w,a,b⟩:=e.val j x hj z
   exact⟨w,by rw[List.getElem?_set_ne (Ne.symm hne)];exact a,b⟩
 ·obtain⟨A,a1,a2,a3⟩:=e.own
  refine⟨A,fun j t x hj q=>?_,a2,a3⟩
  have hne:j≠i:=fun z=>by rw[z,hi] at hj;cases hj
  rw[List.getElem?_set_ne (Ne.symm hne)] at q
  obtain⟨w,a,b⟩:=a1 j t x hj q
  exact⟨w,by rw[List.getElem?_set_ne (Ne.symm hne)];exact a,b⟩
theorem EnvOk.setT (e:EnvOk K O hid H0 σ H ρ ow)(s:Same H H'){i:Nat}{t:Ty}{v:V}{d:PyData}{as:List Addr}(hi:O.s.lookup i=some t)(hl:∀ p∈as,H p=none)(h:DenO K H' (del H' (uni hid (as++ow))) t v d as) :
  EnvOk K O hid H0 (σ.set i (some v)) H' (ρ.set i (some d)) (as++ow):=by
 have nl:∀ p∈as,¬ uni hid ow p:=fun p hp=>e.fresh (hl p hp)
 have gen:∀ P Q:Addr->Prop,(∀ b,Q b->P b∨b∈as)->Same (del H P) (del H' Q):=fun P Q hq b u z=>by
  by_cases hb:P b
  ·rw[del_in hb] at z;cases z
  ·rw[del_out hb] at z
   rw[del_out fun y=>?_]
   ·exact s b u z
   ·rcases hq b y with y | y
    ·exact hb y
    ·rw[hl b y] at z;cases z
 have sub:Same (del H (uni hid ow)) (del H' (uni hid (as++ow))):=gen _ _ fun b z=>by
  rcases z with z | z
  ·exact .inl (.inl z)
  ·rcases List.mem_append.mp z with z | z
   ·exact .inr z
   ·exact .inl (.inr z)
 have subO:Same (del H fun b=>b∈ow) (del H' fun b=>b∈as++ow):=gen _ _ fun b z=>by
  rcases List.mem_append.mp z with z | z
  ·exact .inr z
  ·exact .inl z
 refine⟨by simpa using e.len,e.base.trans subO,fun j x hj q=>?_,?_,fun l2 h2=>?_,fun b hb=>let ⟨vs,q⟩:=e.ishL b hb;⟨vs,s _ _ q⟩,fun z=>by rw[z] at hi;cases hi⟩
 ·have hne:j≠i:=fun z=>by rw[z,hi] at hj;cases hj
  rw[List.getElem?_set_ne (Ne.symm hne)] at q
  obtain⟨w,a,b⟩:=e.val j x hj q
  exact⟨w,by rw[List.getElem?_set_ne (Ne.symm hne)];exact a,b.mono sub⟩
 ·obtain⟨A,a1,a2,a3⟩:=e.own
  refine⟨fun j=>if j=i then as else A j,fun j t' x hj q=>?_,fun j k p hjk hp hk=>?_,fun j p hp=>?_⟩
  ·rcases set_two q with ⟨rfl,z,hz⟩ | ⟨hne,z⟩
   ·obtain rfl:=Option.some.inj z
    rw[hi] at hj
    obtain rfl:=Option.some.inj hj
    exact⟨v,List.getElem?_set_self (by rw[← e.len];exact hz),by dsimp only;rw[if_pos rfl];exact h⟩
   ·obtain⟨w,a,b⟩:=a1 j t' x hj z
    refine⟨w,by rw[List.getElem?_set_ne (Ne.symm hne)];exact a,?_⟩
    dsimp only
    rw[if_neg hne]
    exact b.mono sub fun p _ o q=>s p o q
  ·dsimp only at hp hk
   split at hp
   ·split at hk
    ·subst_vars;exact hjk rfl
    ·exact nl p hp (.inr (a3 k p hk))
   ·split at hk
    ·exact nl p hk (.inr (a3 j p hp))
    ·exact a2 j k p hjk hp hk
  ·dsimp only at hp
   split at hp
   ·exact List.mem_append_left _ hp
   ·exact List.mem_append_right _ (a3 j p hp)
 ·rcases List.mem_append.mp h2 with h2 | h2
  ·exact⟨h.lists l2 h2,fun z=>nl l2 h2 (.inl z)⟩
  ·obtain⟨⟨ws,q⟩,n⟩:=e.isl l2 h2
   exact⟨⟨ws,s _ _ q⟩,n⟩
def hid2 (hid:Addr->Prop)(H:Hp)(as:List Addr):Addr->Prop:=fun b=>hid b∨(b∈as∧H b=none)
theorem hid2_same (s:Same H H')(as:List Addr):Same (del H (uni hid ow)) (del H' (uni (hid2 hid H as) ow)):=fun b o e=>by
 by_cases hb:uni hid ow b
 ·rw[del_in hb] at e;cases e
 ·rw[del_out hb] at e
  rw[del_out fun z=>?_]
  ·exact s b o e
  ·rcases z with (z | ⟨_,z⟩) | z
   ·exact hb (.inl z)
   ·rw[z] at e;cases e
   ·exact hb (.inr z)
theorem OwnA.hide (a:OwnA K O hid σ H ρ ow A)(s:Same H H')(as:List Addr):OwnA K O (hid2 hid H as) σ H' ρ ow A:=
 ⟨fun i t d hi hd=>let ⟨v,q,r⟩:=a.1 i t d hi hd;⟨v,q,r.mono (hid2_same s as) fun p _ o e=>s p o e⟩,a.2⟩
theorem EnvOk.hide (e:EnvOk K O hid H0 σ H ρ ow)(s:Same H H')(as:List Addr)(hn:∀ p∈as,∃ vs:OwO,H' p=some vs.ho):EnvOk K O (hid2 hid H as) H0 σ H' ρ ow:=
 ⟨e.len,e.base.trans (del_mono s _),fun i d hi hd=>let ⟨v,a,b⟩:=e.val i d hi hd;⟨v,a,b.mono (hid2_same s as)⟩,
  let ⟨A,a⟩:=e.own;⟨A,a.hide s as⟩,fun l hl=>let ⟨⟨vs,q⟩,n⟩:=e.isl l hl;⟨⟨vs,s _ _ q⟩,fun z=>by
   rcases z with z | ⟨_,z⟩
   ·exact n z
   ·rw[z] at q;cases q⟩,
  fun b hb=>by
   rcases hb with hb | ⟨hb,_⟩
   ·obtain⟨vs,q⟩:=e.ishL b hb;exact⟨vs,s _ _ q⟩
   ·exact hn b hb,e.emp⟩
theorem EnvOk.at0 (e:EnvOk K O hid H0 σ H ρ ow){i:Nat}{ds:List PyData}(hi:O.s.lookup i=some (.lst .cl))(hρ:ρ[i]?=some (some (.list ds))) :
  ∃ l vs,σ[i]?=some (some (.ref l))∧H l=some (.lst vs)∧DenL K (del H (uni hid ow)) vs ds∧l∈ow ∧
   ∀ H',Same H H'->∀ ws es,DenL K (del H' (uni hid ow)) ws es->EnvOk K O hid H0 σ (upd H' l (.lst ws)) (ρ.set i (some (.list es))) ow:=by
 obtain⟨A,a1,a2,a3⟩:=e.own
 obtain⟨v,hv,D⟩:=a1 i _ _ hi hρ
 generalize hA:A i=Ai at D
 cases D with
 | @lst _ l vs _ as q r n=>
  obtain⟨dl,zq1⟩:=r.dl
  subst zq1
  have hA':l∈A i:=by rw[hA];exact List.mem_singleton.mpr rfl
  have hl:=a3 i l hA'
  refine ⟨l,vs,hv,q,dl,hl,(fun H' s ws es he=>?_)⟩
  have e':=e.mono s
  have ed:del (upd H' l (.lst ws)) (uni hid ow)=del H' (uni hid ow):=del_upd (uni_in hl)
  have eo:del (upd H' l (.lst ws)) (fun b=>b∈ow)=del H' (fun b=>b∈ow):=del_upd hl
  refine⟨by simpa using e.len,by rw[eo];exact e'.base,fun j x hj q=>?_,⟨A,fun j t' x hj q=>?_,a2,a3⟩,fun l2 h2=>?_,fun b hb=>?_,e.emp⟩
  ·have hne:j≠i:=fun z=>by rw[z,hi] at hj;cases hj
   rw[List.getElem?_set_ne (Ne.symm hne)] at q
   rw[ed]
   exact e'.val j x hj q
  ·rw[ed]
   rcases set_two q with ⟨rfl,z,hz⟩ | ⟨hne,z⟩
   ·obtain rfl:=Option.some.inj z
    rw[hi] at hj
    obtain rfl:=Option.some.inj hj
    refine⟨.ref l,hv,?_⟩
    rw[hA]
    exact .lst upd_same he.os (by simp)
   ·obtain⟨w,a,b⟩:=a1 j t' x hj z
    exact⟨w,a,b.mono (del_mono s _) fun p hp o q=>by rw[upd_ne (show p≠l from fun y=>a2 j i p hne hp (by rw[y];exact hA'))];exact s _ _ q⟩
  ·obtain⟨⟨vs2,q⟩,n⟩:=e'.isl l2 h2
   refine⟨?_,n⟩
   by_cases hne:l2=l
   ·subst hne;exact⟨.l ws,upd_same⟩
   ·exact⟨vs2,by rw[upd_ne hne];exact q⟩
  ·have hne:b≠l:=fun z2=>(e.isl l hl).2 (z2▸hb)
   rw[upd_ne hne]
   exact e'.ishL b hb
theorem getP_nil {d:PyData}{ds:List PyData}(h:getP d []=some ds):d=.list ds:=by
 cases d <;> first | (cases h;rfl) | cases h
theorem EnvOk.at (e:EnvOk K O hid H0 σ H ρ ow){i:Nat}{t:Ty}{d:PyData}{path:List Int}{ds:List PyData}(hi:O.s.lookup i=some t)(hρ:ρ[i]?=some (some d))(ht:tyP t d path=true)(hg:getP d path=some ds) :
  ∃ v l vs,σ[i]?=some (some v)∧AtP K H (del H (uni hid ow)) v path l∧H l=some (.lst vs)∧DenL K (del H (uni hid ow)) vs ds∧l∈ow ∧
   ∀ H',Same H H'->∀ ws es,DenL K (del H' (uni hid ow)) ws es->EnvOk K O hid H0 σ (upd H' l (.lst ws)) (ρ.set i (some (setP d path es))) ow:=by
 obtain⟨A,a1,a2,a3⟩:=e.own
 obtain⟨v,hv,D⟩:=a1 i t d hi hρ
 obtain⟨l,vs,g1,g2,g3,g4,g5⟩:=D.focus path ht hg
 have hl:=a3 i l g4
 refine ⟨v,l,vs,hv,g1,g2,g3,hl,(fun H' s ws es he=>?_)⟩
 have e':=e.mono s
 have ed:del (upd H' l (.lst ws)) (uni hid ow)=del H' (uni hid ow):=del_upd (uni_in hl)
 have eo:del (upd H' l (.lst ws)) (fun b=>b∈ow)=del H' (fun b=>b∈ow):=del_upd hl
 have hil:i<ρ.length:=(List.getElem?_eq_some_iff.mp hρ).1
 refine⟨by simpa using e.len,by rw[eo];exact e'.base,fun j x hj q=>?_,⟨A,fun j t' x hj q=>?_,a2,a3⟩,fun l2 h2=>?_,fun b hb=>?_,e.emp⟩
 ·have hne:j≠i:=fun z=>by rw[z,hi] at hj;cases hj
  rw[List.getElem?_set_ne (Ne.symm hne)] at q
  rw[ed]
  exact e'.val j x hj q
 ·rw[ed]
  rcases set_two q with ⟨rfl,z,hz⟩ | ⟨hne,z⟩
  ·obtain rfl:=Option.some.inj z
   rw[hi] at hj
   obtain rfl:=Option.some.inj hj
   exact⟨v,hv,g5 _ _ ws es (del_mono s _) upd_same (fun p _ hne o q=>by rw[upd_ne hne];exact s _ _ q) he⟩
  ·obtain⟨w,a,b⟩:=a1 j t' x hj z
   exact⟨w,a,b.mono (del_mono s _) fun p hp o q=>by rw[upd_ne (show p≠l from fun y=>a2 j i p hne hp (by rw[y];exact g4))];exact s _ _ q⟩
 ·obtain⟨⟨vs2,q⟩,n⟩:=e'.isl l2 h2
  refine⟨?_,n⟩
  by_cases hne:l2=l
  ·subst hne;exact⟨.l ws,upd_same⟩
  ·exact⟨vs2,by rw[upd_ne hne];exact q⟩
 ·have hne:b≠l:=fun z2=>(e.isl l hl).2 (z2▸hb)
  rw[upd_ne hne]
  exact e'.ishL b hb
end
end L2
namespace L2
variable [Reg]
inductive At5 {α:Type}(K:PySem.W.Frag)(O:Ow)(f:Rho->Option α)(σ:St)(H:Hp)(R:(Addr->Prop)->Hp->Rho->List Addr->α->Prop):Prop
 | mk (hid:Addr->Prop) (H0:Hp) (ρ:Rho) (ow:List Addr) (d:α) (E:EnvOk K O hid H0 σ H ρ ow) (hf:f ρ=some d) (k:R hid H0 ρ ow d):At5 K O f σ H R
section
variable (K:PySem.W.Frag)(O:Ow)
def tR (f:Rho->Option PyData):TE:=fun σ H Q=>At5 K O f σ H fun hid H0 ρ ow d=>∀ v H',Same H H'->Den K (del H' hid) v d->Q v H'
def tV (f:Rho->Option PyData):TE:=fun σ H Q=>At5 K O f σ H fun hid H0 ρ ow d=>∀ v H',Same H H'->Den K (del H' (uni hid ow)) v d->Q v H'
def tFr (f:Rho->Option (List PyData)):TE:=fun σ H Q=>At5 K O f σ H fun hid H0 ρ ow ds=>∀ l vs H',Same H H'->H l=none->H' l=some (.lst vs)->DenL K (del H' (uni hid [l])) vs ds->Q (.ref l) H'
def tFc (f:Rho->Option (List PyData)):TE:=fun σ H Q=>At5 K O f σ H fun hid H0 ρ ow ds=>∀ l vs H',Same H H'->H l=none->H' l=some (.lst vs)->DenL K (del H' (uni hid (l::ow))) vs ds->Q (.ref l) H'
def tT (f:Rho->Option Bool):TT:=fun σ H Q=>At5 K O f σ H fun hid H0 ρ ow b=>∀ H',Same H H'->Q b H'
def tAR (f:Rho->Option (List PyData)):TA:=fun σ H Q=>At5 K O f σ H fun hid H0 ρ ow ds=>∀ vs H',Same H H'->DenL K (del H' hid) vs ds->Q vs H'
def tAV (f:Rho->Option (List PyData)):TA:=fun σ H Q=>At5 K O f σ H fun hid H0 ρ ow ds=>∀ vs H',Same H H'->DenL K (del H' (uni hid ow)) vs ds->Q vs H'
end
abbrev PR (X:Cx)(O:Ow)(e:Expr)(f:Rho->Option PyData):Prop:=PE X e (tR X.K O f)
abbrev PV (X:Cx)(O:Ow)(e:Expr)(f:Rho->Option PyData):Prop:=PE X e (tV X.K O f)
abbrev PFr (X:Cx)(O:Ow)(e:Expr)(f:Rho->Option (List PyData)):Prop:=PE X e (tFr X.K O f)
abbrev PFc (X:Cx)(O:Ow)(e:Expr)(f:Rho->Option (List PyData)):Prop:=PE X e (tFc X.K O f)
abbrev PTv (X:Cx)(O:Ow)(e:Expr)(f:Rho->Option Bool):Prop:=PT X e (tT X.K O f)
abbrev PWv (X:Cx)(O:Ow)(e:Expr)(f:Rho->Option Bool):Prop:=PW X e (tT X.K O f)
abbrev PAr (X:Cx)(O:Ow)(es:List Expr)(f:Rho->Option (List PyData)):Prop:=PA X es (tAR X.K O f)
abbrev PAv (X:Cx)(O:Ow)(es:List Expr)(f:Rho->Option (List PyData)):Prop:=PA X es (tAV X.K O f)
theorem PE.imp {X:Cx}{e:Expr}{t t':TE}(h:PE X e t)(hi:∀ σ H Q,t' σ H Q->t σ H Q):PE X e t':=fun pins s σ H Q I q=>h pins s σ H Q I (hi σ H Q q)
theorem PT.imp {X:Cx}{e:Expr}{t t':TT}(h:PT X e t)(hi:∀ σ H Q,t' σ H Q->t σ H Q):PT X e t':=fun pins s σ H Q I q=>h pins s σ H Q I (hi σ H Q q)
theorem PW.imp {X:Cx}{e:Expr}{t t':TT}(h:PW X e t)(hi:∀ σ H Q,t' σ H Q->t σ H Q):PW X e t':=fun wh pins s σ H Q I q=>h wh pins s σ H Q I (hi σ H Q q)
theorem PA.imp {X:Cx}{es:List Expr}{t t':TA}(h:PA X es t)(hi:∀ σ H Q,t' σ H Q->t σ H Q):PA X es t':=fun pos pins s σ H Q I q=>h pos pins s σ H Q I (hi σ H Q q)
theorem PS.imp {X:Cx}{st:Stmt}{t t':TS}(h:PS X st t)(hi:∀ D σ H,t' D σ H->t D σ H):PS X st t':=fun pins s σ H D I q=>h pins s σ H D I (hi D σ H q)
theorem PSs.imp {X:Cx}{st:List Stmt}{t t':TS}(h:PSs X st t)(hi:∀ D σ H,t' D σ H->t D σ H):PSs X st t':=fun pins s σ H D I q=>h pins s σ H D I (hi D σ H q)
theorem PG.imp {X:Cx}{tg:Expr}{t t':TG}(h:PG X tg t)(hi:∀ v σ H Q,t' v σ H Q->t v σ H Q):PG X tg t':=fun pins s σ H v u Q I r q=>h pins s σ H v u Q I r (hi v σ H Q q)
theorem PGs.imp {X:Cx}{tg:List Expr}{t t':TGs}(h:PGs X tg t)(hi:∀ v σ H Q,t' v σ H Q->t v σ H Q):PGs X tg t':=fun pins s σ H v u Q I r q=>h pins s σ H v u Q I r (hi v σ H Q q)
theorem PI.imp {X:Cx}{tg iter:Expr}{t t':TI}(h:PI X tg iter t)(hi:∀ σ H R,t' σ H R->t σ H R):PI X tg iter t':=fun pins s σ H R I q=>h pins s σ H R I (hi σ H R q)
def boolD:PyData->Option Bool
 | .bool b=>some b
 | _=>none
def listD:PyData->Option (List PyData)
 | .list ds=>some ds
 | _=>none
def tupD:PyData->Option (List PyData)
 | .tuple ds=>some ds
 | _=>none
def bind2 (a b:Option PyData)(g:PyData->PyData->Option PyData):Option PyData:=a.bind fun x=>b.bind fun y=>g x y
inductive Bnd2 (a b:Option PyData)(g:PyData->PyData->Option PyData)(r:PyData):Prop
 | mk (x y:PyData) (h1:a=some x) (h2:b=some y) (h3:g x y=some r):Bnd2 a b g r
inductive Bnd {α β:Type}(a:Option α)(g:α->Option β)(r:β):Prop
 | mk (x:α) (h1:a=some x) (h2:g x=some r):Bnd a g r
inductive Mpd {α β:Type}(a:Option α)(g:α->β)(r:β):Prop
 | mk (x:α) (h1:a=some x) (h2:g x=r):Mpd a g r
theorem bind2_some {a b:Option PyData}{g:PyData->PyData->Option PyData}{r:PyData}(h:bind2 a b g=some r):Bnd2 a b g r:=by
 unfold bind2 at h
 cases a with
 | none=>exact L2.no_ns h
 | some x=>
  cases b with
  | none=>exact L2.no_ns h
  | some y=>exact⟨x,y,rfl,rfl,h⟩
def consD (x:Option PyData)(r:Option (List PyData)):Option (List PyData):=x.bind fun d=>r.map (d::·)
def testD (x:Option PyData):Option Bool:=x.bind boolD
def condO {α:Type}(c:Option Bool)(a b:Option α):Option α:=c.bind fun k=>if k=true then a else b
def andB (x y:Option Bool):Option Bool:=x.bind fun c=>if c=true then y else some false
def orB (x y:Option Bool):Option Bool:=x.bind fun c=>if c=true then some true else y
def andV (x y:Option PyData):Option PyData:=(x.bind boolD).bind fun c=>if c=true then y else some (.bool false)
def orV (x y:Option PyData):Option PyData:=(x.bind boolD).bind fun c=>if c=true then some (.bool true) else y
def notV (x:Option PyData):Option PyData:=(x.bind boolD).map fun c=>.bool (!c)
theorem bind_some {α β:Type}{a:Option α}{g:α->Option β}{r:β}(h:a.bind g=some r):Bnd a g r:=by
 cases a with
 | none=>exact L2.no_ns h
 | some x=>exact⟨x,rfl,h⟩
theorem map_some {α β:Type}{a:Option α}{g:α->β}{r:β}(h:a.map g=some r):Mpd a g r:=by
 cases a with
 | none=>exact L2.no_ns h
 | some x=>exact⟨x,rfl,Option.some.inj h⟩
section
variable {X:Cx}{O:Ow}{e a b c:Expr}{f fa fb fc:Rho->Option PyData}{pos:Pos}
theorem PV.r (h:PV X O e f):PR X O e f:=h.imp fun σ H Q ⟨hid,H0,ρ,ow,d,E,hf,k⟩=>⟨hid,H0,ρ,ow,d,E,hf,fun v H' s D=>k v H' s (D.mono (del_uni _ _ _))⟩
theorem PR.cl0 (h:PR X O e f)(h0:O.s=[]:=by rfl):PV X O e f:=h.imp fun σ H Q ⟨hid,H0,ρ,ow,d,E,hf,k⟩=>⟨hid,H0,ρ,ow,d,E,hf,fun v H' s D=>k v H' s (by rw[E.emp h0,uni_nil];exact D)⟩
theorem PR.clf (h:PR X O e f):PV X O e (fun ρ=>(f ρ).filter lf):=h.imp fun σ H Q zpat=>by
 obtain⟨hid,H0,ρ,ow,d,E,hf,k⟩:=zpat
 obtain⟨h1,h2⟩:=Option.filter_eq_some_iff.mp hf
 exact⟨hid,H0,ρ,ow,d,E,h1,fun v H' s D=>k v H' s (D.clean (E.mono s).lists h2)⟩
theorem PFr.r {f:Rho->Option (List PyData)}(h:PFr X O e f):PR X O e (fun ρ=>(f ρ).map .list):=h.imp fun σ H Q zpat=>by
 obtain⟨hid,H0,ρ,ow,d,E,hf,k⟩:=zpat
 obtain⟨ds,h1,rfl⟩:=map_some hf
 exact⟨hid,H0,ρ,ow,ds,E,h1,fun l vs H' s n q D=>k (.ref l) H' s (.lst (SqL.of (by rw[del_out fun z=>E.fresh n (.inl z)];exact q)) (D.mono (del_uni _ _ _)))⟩
theorem PFc.fr {f:Rho->Option (List PyData)}(h:PFc X O e f):PFr X O e f:=h.imp fun σ H Q ⟨hid,H0,ρ,ow,d,E,hf,k⟩=>⟨hid,H0,ρ,ow,d,E,hf,fun l vs H' s n q D=>k l vs H' s n q (D.mono (del_sub fun b z=>by rcases z with z | z;exact .inl z;exact .inr (by simp at z;simp[z])))⟩
theorem PFc.v {f:Rho->Option (List PyData)}(h:PFc X O e f):PV X O e (fun ρ=>(f ρ).map .list):=h.imp fun σ H Q zpat=>by
 obtain⟨hid,H0,ρ,ow,d,E,hf,k⟩:=zpat
 obtain⟨ds,h1,rfl⟩:=map_some hf
 refine⟨hid,H0,ρ,ow,ds,E,h1,fun l vs H' s n q D=>k (.ref l) H' s (.lst (SqL.of ?_) (D.mono (del_sub fun b z=>by rcases z with z | z;exact .inl z;exact .inr (List.mem_cons_of_mem _ z))))⟩
 rw[del_out (E.fresh n)]
 exact q
theorem PFr.cf {f:Rho->Option (List PyData)}(h:PFr X O e f):PFc X O e (fun ρ=>(f ρ).filter lf.go):=h.imp fun σ H Q zpat=>by
 obtain⟨hid,H0,ρ,ow,d,E,hf,k⟩:=zpat
 obtain⟨h1,h2⟩:=Option.filter_eq_some_iff.mp hf
 refine⟨hid,H0,ρ,ow,d,E,h1,fun l vs H' s n q D=>k l vs H' s n q ((D.mono (del_uni _ _ _)).clean (fun l2 h2=>?_) h2)⟩
 rcases List.mem_cons.mp h2 with rfl | h2
 ·exact⟨.l vs,q⟩
 ·exact (E.mono s).lists l2 h2
theorem PFr.cz {f:Rho->Option (List PyData)}(h:PFr X O e f)(h0:O.s=[]:=by rfl):PFc X O e f:=h.imp fun σ H Q ⟨hid,H0,ρ,ow,d,E,hf,k⟩=>⟨hid,H0,ρ,ow,d,E,hf,fun l vs H' s n q D=>k l vs H' s n q (by rw[E.emp h0];exact D)⟩
theorem join_some {ρ:Rho}{i:Nat}{d:PyData}(h:(ρ[i]?).join=some d):ρ[i]?=some (some d):=by
 cases q:ρ[i]? with
 | none=>rw[q] at h;cases h
 | some x=>rw[q] at h;exact congrArg some h
theorem pr_name {i:Nat}(h:PE X e (tVar i)):PR X O e (fun ρ=>(ρ[i]?).join):=h.imp fun σ H Q zpat=>by
 obtain⟨hid,H0,ρ,ow,d,E,hf,k⟩:=zpat
 obtain⟨v,h1,h2⟩:=E.raw (join_some hf)
 exact⟨v,h1,k v H (Same.refl H) h2⟩
theorem pv_name {i:Nat}(h:PE X e (tVar i))(hi:O.s.lookup i=none:=by rfl):PV X O e (fun ρ=>(ρ[i]?).join):=h.imp fun σ H Q zpat=>by
 obtain⟨hid,H0,ρ,ow,d,E,hf,k⟩:=zpat
 obtain⟨v,h1,h2⟩:=E.val i d hi (join_some hf)
 exact⟨v,h1,k v H (Same.refl H) h2⟩
theorem pv_c {v:V}{d:PyData}(h:PE X e (tC v))(s:Sc v d):PV X O e (fun _=>some d):=h.imp fun σ H Q zpat=>by
 obtain⟨hid,H0,ρ,ow,d',E,hf,k⟩:=zpat
 obtain rfl:=Option.some.inj hf
 exact k v H (Same.refl H) s.den
theorem pv_int {i:Int}{j:Nat}:PV X O (.Constant (.int i) j pos) (fun _=>some (.int i)):=pv_c pe_int (.int i)
theorem pv_bl {i:Bool}{j:Nat}:PV X O (.Constant (.bool i) j pos) (fun _=>some (.bool i)):=pv_c pe_bl (.bl i)
theorem pv_non {j:Nat}:PV X O (.Constant .none j pos) (fun _=>some .none):=pv_c pe_non .non
def SpecOp (K:PySem.W.Frag)(rd:R2)(g:PyData->PyData->Option PyData):Prop:=∀ x y H d e r Q,Den K H x d->Den K H y e->g d e=some r->(∀ v,Sc v r->Q v H)->rd x y H Q
def SpecOpR (K:PySem.W.Frag)(rd:R2)(g:PyData->PyData->Option PyData):Prop:=∀ x y H G d e r Q,Same G H->Den K G x d->Den K G y e->g d e=some r->(∀ v,Den K G v r->Q v H)->rd x y H Q
theorem tOp_imp {K:PySem.W.Frag}{rd:R2}{g:PyData->PyData->Option PyData}(hg:SpecOp K rd g):∀ σ H Q,tV K O (fun ρ=>bind2 (fa ρ) (fb ρ) g) σ H Q->tOp rd (tR K O fa) (tR K O fb) σ H Q:=fun σ H Q zpat=>by
 obtain⟨hid,H0,ρ,ow,r,E,hf,k⟩:=zpat
 obtain⟨d,e,h1,h2,h3⟩:=bind2_some hf
 exact⟨hid,H0,ρ,ow,d,E,h1,fun x H1 s1 D1=>⟨hid,H0,ρ,ow,e,E.mono s1,h2,fun y H2 s2 D2=>hg x y H2 d e r Q ((D1.mono (del_mono s2 _)).mono (del_same _ _)) (D2.mono (del_same _ _)) h3 fun v S=>k v H2 (s1.trans s2) S.den⟩⟩
theorem tOp_impR {K:PySem.W.Frag}{rd:R2}{g:PyData->PyData->Option PyData}(hg:SpecOpR K rd g):∀ σ H Q,tR K O (fun ρ=>bind2 (fa ρ) (fb ρ) g) σ H Q->tOp rd (tR K O fa) (tR K O fb) σ H Q:=fun σ H Q zpat=>by
 obtain⟨hid,H0,ρ,ow,r,E,hf,k⟩:=zpat
 obtain⟨d,e,h1,h2,h3⟩:=bind2_some hf
 exact⟨hid,H0,ρ,ow,d,E,h1,fun x H1 s1 D1=>⟨hid,H0,ρ,ow,e,E.mono s1,h2,fun y H2 s2 D2=>hg x y H2 _ d e r Q (del_same _ hid) (D1.mono (del_mono s2 _)) D2 h3 fun v S=>k v H2 (s1.trans s2) S⟩⟩
def intO:PyData->Option Int
 | .int i=>some i
 | _=>none
theorem intO_some {d:PyData}{i:Int}(h:intO d=some i):d=.int i:=by
 cases d with
 | int j=>rw[Option.some.inj h]
 | _=>exact L2.no_ns h
def seqD:PyData->Option (List PyData)
 | .list ds=>some ds
 | .tuple ds=>some ds
 | _=>none
theorem seqD_some {d:PyData}{ds:List PyData}(h:seqD d=some ds):d=.list ds∨d=.tuple ds:=by
 cases d with
 | list es=>exact .inl (by rw[Option.some.inj h])
 | tuple es=>exact .inr (by rw[Option.some.inj h])
 | _=>exact L2.no_ns h
def int2 (h:Int->Int->PyData)(d e:PyData):Option PyData:=(intO d).bind fun i=>(intO e).map fun j=>h i j
def int2C (c:Int->Int->Bool)(h:Int->Int->PyData)(d e:PyData):Option PyData:=(intO d).bind fun i=>(intO e).bind fun j=>if c i j=true then some (h i j) else none
theorem int2_some {h:Int->Int->PyData}{d e r:PyData}(q:int2 h d e=some r):∃ i j,d=.int i∧e=.int j∧r=h i j:=by
 obtain⟨i,h1,q⟩:=bind_some q
 obtain⟨j,h2,q⟩:=map_some q
 exact ⟨i,j,intO_some h1,intO_some h2,q.symm⟩
theorem int2C_some {c:Int->Int->Bool}{h:Int->Int->PyData}{d e r:PyData}(q:int2C c h d e=some r):∃ i j,d=.int i∧e=.int j∧c i j=true∧r=h i j:=by
 obtain⟨i,h1,q⟩:=bind_some q
 obtain⟨j,h2,q⟩:=bind_some q
 by_cases hc:c i j=true
 ·rw[if_pos hc] at q
  exact ⟨i,j,intO_some h1,intO_some h2,hc,(Option.some.inj q).symm⟩
 ·rw[if_neg hc] at q;exact L2.no_ns q
def one:List PyData->Option PyData
 | [d]=>some d
 | _=>none
theorem one_some {ds:List PyData}{d:PyData}(h:one ds=some d):ds=[d]:=by
 cases ds with
 | nil=>exact L2.no_ns h
 | cons a r=>
  cases r with
  | nil=>rw[Option.some.inj h]
  | cons b r=>exact L2.no_ns h
def two:List PyData->Option (PyData×PyData)
 | [d,e]=>some (d,e)
 | _=>none
theorem two_some {ds:List PyData}{p:PyData×PyData}(h:two ds=some p):ds=[p.1,p.2]:=by
 cases ds with
 | nil=>exact L2.no_ns h
 | cons a r=>
  cases r with
  | nil=>exact L2.no_ns h
  | cons b r=>
   cases r with
   | nil=>rw[← Option.some.inj h]
   | cons c r=>exact L2.no_ns h
theorem spI0 {K:PySem.W.Frag}{g:Int->Int->V}{h:Int->Int->PyData}(hs:∀ i j,Sc (g i j) (h i j)):SpecOp K (rI0 g) (int2 h):=fun x y H d e r Q D1 D2 q k=>by
 obtain⟨i,j,zq2,zq3,zq4⟩:=int2_some q
 subst zq2
 subst zq3
 subst zq4
 exact ⟨i,j,den_int D1,den_int D2,k _ (hs i j)⟩
theorem spI {K:PySem.W.Frag}{C:Int->Int->Prop}{c:Int->Int->Bool}{g:Int->Int->V}{h:Int->Int->PyData}(hs:∀ i j,Sc (g i j) (h i j))(hc:∀ i j,c i j=true->C i j):SpecOp K (rI C g) (int2C c h):=fun x y H d e r Q D1 D2 q k=>by
 obtain⟨i,j,zq2,zq3,hcc,zq5⟩:=int2C_some q
 subst zq2
 subst zq3
 subst zq5
 exact ⟨i,j,den_int D1,den_int D2,hc i j hcc,k _ (hs i j)⟩
def isBig (i:Int):Bool:=decide (i.natAbs<big)
def addD:=int2 fun i j=>.int (i+j)
def subD:=int2 fun i j=>.int (i - j)
def isS (i:Int):Bool:=decide (i.natAbs<2 ^ 63)
def mulD:=int2C (fun i j=>(isBig i&&isBig j)||(isS i||isS j)) fun i j=>.int (i*j)
def fdivD:=int2C (fun _ j=>decide (j≠0)&&isBig j) fun i j=>.int (i.fdiv j)
def modD:=int2C (fun _ j=>decide (j≠0)) fun i j=>.int (i.fmod j)
def powD:=int2C (fun i j=>decide (0≤j)&&decide (j≤1000000)&&decide (i.natAbs<2 ^ 64)) fun i j=>.int (i ^ j.toNat)
def ltD:=int2 fun i j=>.bool (decide (i<j))
def leD:=int2 fun i j=>.bool (decide (i≤j))
def gtD:=int2 fun i j=>.bool (decide (j<i))
def geD:=int2 fun i j=>.bool (decide (j≤i))
def eqD (d e:PyData):Option PyData:=if (SeqAt.shaped d&&SeqAt.shaped e)=true then some (.bool (PyData.eqv d e)) else none
def neD (d e:PyData):Option PyData:=if (SeqAt.shaped d&&SeqAt.shaped e)=true then some (.bool (!PyData.eqv d e)) else none
theorem sp_eq {K:PySem.W.Frag}:SpecOp K (rEqD K) eqD:=fun x y H d e r Q D1 D2 q k=>by
 unfold eqD at q
 split at q
 ·rename_i h
  rw[Bool.and_eq_true] at h
  obtain rfl:=Option.some.inj q
  exact ⟨d,e,D1,D2,h.1,h.2,k _ (.bl _)⟩
 ·exact L2.no_ns q
theorem sp_ne {K:PySem.W.Frag}:SpecOp K (rNeD K) neD:=fun x y H d e r Q D1 D2 q k=>by
 unfold neD at q
 split at q
 ·rename_i h
  rw[Bool.and_eq_true] at h
  obtain rfl:=Option.some.inj q
  exact ⟨d,e,D1,D2,h.1,h.2,k _ (.bl _)⟩
 ·exact L2.no_ns q
theorem v_add (ha:PR X O a fa)(hb:PR X O b fb):PV X O (.BinOp a .Add b pos) (fun ρ=>bind2 (fa ρ) (fb ρ) addD):=(pe_op op_add ha hb).imp (tOp_imp (spI0 fun _ _=>.int _))
theorem v_sub (ha:PR X O a fa)(hb:PR X O b fb):PV X O (.BinOp a .Sub b pos) (fun ρ=>bind2 (fa ρ) (fb ρ) subD):=(pe_op op_sub ha hb).imp (tOp_imp (spI0 fun _ _=>.int _))
theorem v_mul (ha:PR X O a fa)(hb:PR X O b fb):PV X O (.BinOp a .Mult b pos) (fun ρ=>bind2 (fa ρ) (fb ρ) mulD):=(pe_op op_mulB ha hb).imp (tOp_imp (spI (fun _ _=>.int _) fun i j h=>by
 rw[Bool.or_eq_true,Bool.or_eq_true,Bool.and_eq_true] at h
 rcases h with h | h | h
 ·exact .inl ⟨of_decide_eq_true h.1,of_decide_eq_true h.2⟩
 ·have:=of_decide_eq_true h
  exact .inr (.inl (by omega))
 ·have:=of_decide_eq_true h
  exact .inr (.inr (by omega))))
theorem v_fdiv (ha:PR X O a fa)(hb:PR X O b fb):PV X O (.BinOp a .FloorDiv b pos) (fun ρ=>bind2 (fa ρ) (fb ρ) fdivD):=(pe_op op_fdivB ha hb).imp (tOp_imp (spI (fun _ _=>.int _) fun i j h=>by
 rw[Bool.and_eq_true] at h;exact⟨of_decide_eq_true h.1,of_decide_eq_true h.2⟩))
theorem v_mod (ha:PR X O a fa)(hb:PR X O b fb):PV X O (.BinOp a .Mod b pos) (fun ρ=>bind2 (fa ρ) (fb ρ) modD):=(pe_op op_modN ha hb).imp (tOp_imp (spI (fun _ _=>.int _) fun i j h=>of_decide_eq_true h))
theorem v_pow (ha:PR X O a fa)(hb:PR X O b fb):PV X O (.BinOp a .Pow b pos) (fun ρ=>bind2 (fa ρ) (fb ρ) powD):=(pe_op op_pow ha hb).imp (tOp_imp (spI (fun _ _=>.int _) fun i j h=>by
 rw[Bool.and_eq_true,Bool.and_eq_true] at h;exact⟨of_decide_eq_true h.1.1,of_decide_eq_true h.1.2,of_decide_eq_true h.2⟩))
structure CmpD (X:Cx)(op:CmpOp)(g:PyData->PyData->Option PyData):Prop where
 ex:∃ rd,OpR X (compareOp op) rd∧SpecOp X.K rd g
theorem c_lt:CmpD X .Lt ltD:=⟨_,op_lt,spI0 fun _ _=>.bl _⟩
theorem c_le:CmpD X .LtE leD:=⟨_,op_le,spI0 fun _ _=>.bl _⟩
theorem c_gt:CmpD X .Gt gtD:=⟨_,op_gt,spI0 fun _ _=>.bl _⟩
theorem c_ge:CmpD X .GtE geD:=⟨_,op_ge,spI0 fun _ _=>.bl _⟩
theorem c_eq (hu:X.A.units+64<cLine):CmpD X .Eq eqD:=⟨_,op_eqD hu,sp_eq⟩
theorem c_ne (hu:X.A.units+64<cLine):CmpD X .NotEq neD:=⟨_,op_neD hu,sp_ne⟩
theorem v_cmp {op:CmpOp}{g:PyData->PyData->Option PyData}(C:CmpD X op g)(ha:PR X O a fa)(hb:PR X O b fb)(h1:op≠.In:=by decide)(h2:op≠.NotIn:=by decide):PV X O (.Compare a [op] [b] pos) (fun ρ=>bind2 (fa ρ) (fb ρ) g):=by
 obtain⟨rd,ho,hs⟩:=C.ex
 exact (pe_cmpR ho ha hb (nomark b h1 h2)).imp (tOp_imp hs)
theorem boolD_some {d:PyData}{b:Bool}(h:boolD d=some b):d=.bool b:=by
 unfold boolD at h
 split at h
 ·cases h;rfl
 ·exact L2.no_ns h
theorem t_cmp {op:CmpOp}{g:PyData->PyData->Option PyData}(C:CmpD X op g)(ha:PR X O a fa)(hb:PR X O b fb)(h1:op≠.In:=by decide)(h2:op≠.NotIn:=by decide):PTv X O (.Compare a [op] [b] pos) (fun ρ=>testD (bind2 (fa ρ) (fb ρ) g)):=by
 obtain⟨rd,ho,hs⟩:=C.ex
 refine (pt_cmpR ho ha hb (nomark b h1 h2)).imp fun σ H Q zpat=>?_
 obtain⟨hid,H0,ρ,ow,k,E,hf,q⟩:=zpat
 obtain⟨d,h3,h4⟩:=bind_some hf
 refine tOp_imp hs σ H _ ⟨hid,H0,ρ,ow,d,E,h3,fun v H' s D=>?_⟩
 rw[boolD_some h4] at D
 exact⟨k,den_bl D,q H' s⟩
theorem t_val (h:PR X O e f)(he:∀ whole,isTrue e X.env whole=(do let v ← whole;standAt e.pos;holding [v] (truthy v)):=by intro _;rfl):PTv X O e (fun ρ=>testD (f ρ)):=
 (pt_val h he).imp fun σ H Q zpat=>by
  obtain⟨hid,H0,ρ,ow,k,E,hf,q⟩:=zpat
  obtain⟨d,h3,h4⟩:=bind_some hf
  refine⟨hid,H0,ρ,ow,d,E,h3,fun v H' s D=>?_⟩
  rw[boolD_some h4] at D
  exact⟨k,den_bl D,q H' s⟩
variable {ga gb:Rho->Option Bool}{rest:List Expr}
theorem w_and1 (ha:PTv X O a ga):PWv X O (.BoolOp .And [a] pos) ga:=pw_and1 ha
theorem w_or1 (ha:PTv X O a ga):PWv X O (.BoolOp .Or [a] pos) ga:=pw_or1 ha
theorem w_and (ha:PTv X O a ga)(hb:PWv X O (.BoolOp .And (b::rest) pos) gb):PWv X O (.BoolOp .And (a::b::rest) pos) (fun ρ=>andB (ga ρ) (gb ρ)):=
 (pw_and ha hb).imp fun σ H Q zpat=>by
  obtain⟨hid,H0,ρ,ow,k,E,hf,q⟩:=zpat
  obtain⟨c,h1,h2⟩:=bind_some hf
  refine⟨hid,H0,ρ,ow,c,E,h1,fun H1 s1=>?_⟩
  cases c with
  | true=>rw[if_pos rfl] at h2 ⊢;exact⟨hid,H0,ρ,ow,k,E.mono s1,h2,fun H2 s2=>q H2 (s1.trans s2)⟩
  | false=>rw[if_neg Bool.false_ne_true] at h2 ⊢;cases h2;exact q H1 s1
theorem w_or (ha:PTv X O a ga)(hb:PWv X O (.BoolOp .Or (b::rest) pos) gb):PWv X O (.BoolOp .Or (a::b::rest) pos) (fun ρ=>orB (ga ρ) (gb ρ)):=
 (pw_or ha hb).imp fun σ H Q zpat=>by
  obtain⟨hid,H0,ρ,ow,k,E,hf,q⟩:=zpat
  obtain⟨c,h1,h2⟩:=bind_some hf
  refine⟨hid,H0,ρ,ow,c,E,h1,fun H1 s1=>?_⟩
  cases c with
  | true=>rw[if_pos rfl] at h2 ⊢;cases h2;exact q H1 s1
  | false=>rw[if_neg Bool.false_ne_true] at h2 ⊢;exact⟨hid,H0,ρ,ow,k,E.mono s1,h2,fun H2 s2=>q H2 (s1.trans s2)⟩
theorem t_w (h:PWv X O e ga):PTv X O e ga:=h.pt
theorem t_not (ha:PTv X O a ga):PTv X O (.UnaryOp .Not a pos) (fun ρ=>(ga ρ).map not):=(pt_not ha).imp fun σ H Q zpat=>by
 obtain⟨hid,H0,ρ,ow,k,E,hf,q⟩:=zpat
 obtain⟨c,h1,h2⟩:=map_some hf
 subst h2
 exact⟨hid,H0,ρ,ow,c,E,h1,fun H1 s1=>q H1 s1⟩
theorem r_one {op:BoolOp}(h:PR X O a fa):PR X O (.BoolOp op [a] pos) fa:=pe_one h
theorem r_and (ha:PR X O a fa)(hb:PR X O (.BoolOp .And (b::rest) pos) fb):PR X O (.BoolOp .And (a::b::rest) pos) (fun ρ=>andV (fa ρ) (fb ρ)):=
 (pe_and ha hb).imp fun σ H Q zpat=>by
  obtain⟨hid,H0,ρ,ow,k,E,hf,q⟩:=zpat
  obtain⟨c,h1,h2⟩:=bind_some hf
  obtain⟨d,h3,h4⟩:=bind_some h1
  refine⟨hid,H0,ρ,ow,d,E,h3,fun v H1 s1 D=>?_⟩
  rw[boolD_some h4] at D
  refine⟨c,den_bl D,?_⟩
  cases c with
  | true=>rw[if_pos rfl] at h2 ⊢;exact⟨hid,H0,ρ,ow,k,E.mono s1,h2,fun w H2 s2 D2=>q w H2 (s1.trans s2) D2⟩
  | false=>rw[if_neg Bool.false_ne_true] at h2 ⊢;cases h2;exact q _ H1 s1 (.bl false)
theorem v_not (ha:PR X O a fa):PV X O (.UnaryOp .Not a pos) (fun ρ=>notV (fa ρ)):=(pe_not ha).imp fun σ H Q zpat=>by
 obtain⟨hid,H0,ρ,ow,k,E,hf,q⟩:=zpat
 obtain⟨c,h1,h2⟩:=map_some hf
 obtain⟨d,h3,h4⟩:=bind_some h1
 subst h2
 refine⟨hid,H0,ρ,ow,d,E,h3,fun v H1 s1 D=>?_⟩
 rw[boolD_some h4] at D
 exact⟨c,den_bl D,q _ H1 s1 (.bl _)⟩
def negD:PyData->Option PyData
 | .int i=>some (.int (-i))
 | _=>none
theorem v_neg (ha:PR X O a fa):PV X O (.UnaryOp .USub a pos) (fun ρ=>(fa ρ).bind negD):=(pe_un un_neg ha).imp fun σ H Q zpat=>by
 obtain⟨hid,H0,ρ,ow,k,E,hf,q⟩:=zpat
 obtain⟨d,h1,h2⟩:=bind_some hf
 unfold negD at h2
 split at h2
 ·obtain rfl:=Option.some.inj h2
  exact⟨hid,H0,ρ,ow,_,E,h1,fun v H1 s1 D=>⟨_,den_int D,q _ H1 s1 (.int _)⟩⟩
 ·exact L2.no_ns h2
def ixD (d e:PyData):Option PyData:=(seqD d).bind fun ds=>(intO e).bind fun i=>atI ds i
theorem sp_ix {K:PySem.W.Frag}:SpecOpR K (fun x y H Q=>rIxL K x y H Q∨rIxT K x y H Q) ixD:=fun x y H G d e r Q s D1 D2 q k=>by
 obtain⟨ds,h1,q⟩:=bind_some q
 obtain⟨i,h2,q⟩:=bind_some q
 obtain rfl:=intO_some h2
 rcases seqD_some h1 with rfl | rfl
 ·obtain⟨p,vs,rfl,h1,h2⟩:=den_lst D1
  obtain⟨v,h3,h4⟩:=h2.atI q
  exact .inl ⟨p,vs,_,v,rfl,den_int D2,s.seq h1,h3,k v h4⟩
 ·obtain⟨p,vs,rfl,h1,h2⟩:=den_tup D1
  obtain⟨v,h3,h4⟩:=h2.atI q
  exact .inr ⟨p,vs,_,v,rfl,den_int D2,s.tup h1,h3,k v h4⟩
theorem r_ix (ha:PR X O a fa)(hb:PR X O b fb)(hs:PlainIx b:=by intro _ _;rfl):PR X O (.Subscript a b pos) (fun ρ=>bind2 (fa ρ) (fb ρ) ixD):=(pe_ix (ix_list.or ix_tup) ha hb hs).imp (tOp_impR sp_ix)
variable {es:List Expr}{fs:Rho->Option (List PyData)}
theorem a_nil:PAr X O [] (fun _=>some []):=pa_nil.imp fun σ H Q ⟨hid,H0,ρ,ow,ds,E,hf,k⟩=>by cases hf;exact k [] H (Same.refl H) .nil
theorem a_cons (ha:PR X O a fa)(hr:PAr X O es fs)(hs:starEach (a::es) X.env=(false,eval a X.env)::starEach es X.env:=by rfl):PAr X O (a::es) (fun ρ=>consD (fa ρ) (fs ρ)):=
 (pa_cons ha hr hs).imp fun σ H Q zpat=>by
  obtain⟨hid,H0,ρ,ow,ds,E,hf,k⟩:=zpat
  obtain⟨d,h1,hf⟩:=bind_some hf
  obtain⟨r,h2,rfl⟩:=map_some hf
  exact⟨hid,H0,ρ,ow,d,E,h1,fun x H1 s1 D1=>⟨hid,H0,ρ,ow,r,E.mono s1,h2,fun xs H2 s2 D2=>k (x::xs) H2 (s1.trans s2) (.cons (D1.mono (del_mono s2 _)) D2)⟩⟩
theorem ac_nil:PAv X O [] (fun _=>some []):=pa_nil.imp fun σ H Q ⟨hid,H0,ρ,ow,ds,E,hf,k⟩=>by cases hf;exact k [] H (Same.refl H) .nil
theorem ac_cons (ha:PV X O a fa)(hr:PAv X O es fs)(hs:starEach (a::es) X.env=(false,eval a X.env)::starEach es X.env:=by rfl):PAv X O (a::es) (fun ρ=>consD (fa ρ) (fs ρ)):=
 (pa_cons ha hr hs).imp fun σ H Q zpat=>by
  obtain⟨hid,H0,ρ,ow,ds,E,hf,k⟩:=zpat
  obtain⟨d,h1,hf⟩:=bind_some hf
  obtain⟨r,h2,rfl⟩:=map_some hf
  exact⟨hid,H0,ρ,ow,d,E,h1,fun x H1 s1 D1=>⟨hid,H0,ρ,ow,r,E.mono s1,h2,fun xs H2 s2 D2=>k (x::xs) H2 (s1.trans s2) (.cons (D1.mono (del_mono s2 _)) D2)⟩⟩
theorem len_line {n:Nat}(h:decide (n≤1000)=true):n≤sizeLine:=Nat.le_trans (of_decide_eq_true h) (by decide)
def shortD (f:List PyData->PyData)(o:Option (List PyData)):Option PyData:=o.bind fun ds=>if decide (ds.length≤1000)=true then some (f ds) else none
theorem shortD_some {f:List PyData->PyData}{o:Option (List PyData)}{r:PyData}(h:shortD f o=some r):∃ ds,o=some ds∧ds.length≤sizeLine∧r=f ds:=by
 obtain⟨ds,h1,h2⟩:=bind_some h
 split at h2
 ·rename_i hc
  exact⟨ds,h1,len_line hc,(Option.some.inj h2).symm⟩
 ·exact L2.no_ns h2
theorem v_tup {x1}(h:PAv X O es fs):PV X O (.Tuple es x1 pos) (fun ρ=>shortD .tuple (fs ρ)):=(pe_tup h).imp fun σ H Q zpat=>by
 obtain⟨hid,H0,ρ,ow,r,E,hf,k⟩:=zpat
 obtain⟨ds,h1,h2,zq3⟩:=shortD_some hf
 subst zq3
 refine⟨hid,H0,ρ,ow,ds,E,h1,fun vs H1 s1 D1=>⟨by rw[D1.length];exact h2,fun p hp=>?_⟩⟩
 refine k _ _ (s1.trans (same_new hp)) (.tup (SqT.of ((E.mono s1).newAt hp)) (D1.mono (del_mono (same_new hp) _)))
def shortL (o:Option (List PyData)):Option (List PyData):=o.bind fun ds=>if decide (ds.length≤1000)=true then some ds else none
theorem shortL_some {o:Option (List PyData)}{r:List PyData}(h:shortL o=some r):o=some r∧r.length≤sizeLine:=by
 obtain⟨ds,h1,h2⟩:=bind_some h
 split at h2
 ·rename_i hc
  obtain rfl:=Option.some.inj h2
  exact⟨h1,len_line hc⟩
 ·exact L2.no_ns h2
theorem fc_lst (h:PAv X O es fs):PFc X O (.List es pos) (fun ρ=>shortL (fs ρ)):=(pe_lst h).imp fun σ H Q zpat=>by
 obtain⟨hid,H0,ρ,ow,r,E,hf,k⟩:=zpat
 obtain⟨h1,h2⟩:=shortL_some hf
 refine⟨hid,H0,ρ,ow,r,E,h1,fun vs H1 s1 D1=>⟨by rw[D1.length];exact h2,fun p hp=>?_⟩⟩
 exact k _ vs _ (s1.trans (same_new hp)) (s1.free hp) upd_same (D1.mono (del_new (same_new hp) hp fun b z=>by rcases z with z | z;exact .inl (.inl z);rcases List.mem_cons.mp z with z | z;exact .inr z;exact .inl (.inr z)))
theorem fr_lst (h:PAr X O es fs):PFr X O (.List es pos) (fun ρ=>shortL (fs ρ)):=(pe_lst h).imp fun σ H Q zpat=>by
 obtain⟨hid,H0,ρ,ow,r,E,hf,k⟩:=zpat
 obtain⟨h1,h2⟩:=shortL_some hf
 refine⟨hid,H0,ρ,ow,r,E,h1,fun vs H1 s1 D1=>⟨by rw[D1.length];exact h2,fun p hp=>?_⟩⟩
 exact k _ vs _ (s1.trans (same_new hp)) (s1.free hp) upd_same (D1.mono (del_new (same_new hp) hp fun b z=>by rcases z with z | z;exact .inl z;exact .inr (by simpa using z)))
def catL (x y:Option PyData):Option (List PyData):=(x.bind listD).bind fun ds=>(y.bind listD).bind fun es=>if decide ((ds++es).length≤1000)=true then some (ds++es) else none
theorem listD_some {d:PyData}{ds:List PyData}(h:listD d=some ds):d=.list ds:=by
 cases d with
 | list es=>rw[Option.some.inj h]
 | _=>exact L2.no_ns h
theorem catL_some {x y:Option PyData}{r:List PyData}(h:catL x y=some r):∃ ds es,x=some (.list ds)∧y=some (.list es)∧r=ds++es∧ds.length+es.length≤sizeLine:=by
 obtain⟨ds,h1,h⟩:=bind_some h
 obtain⟨es,h2,h⟩:=bind_some h
 obtain⟨d,h3,h4⟩:=bind_some h1
 obtain⟨e,h5,h6⟩:=bind_some h2
 rw[listD_some h4] at h3
 rw[listD_some h6] at h5
 split at h
 ·rename_i hc
  obtain rfl:=Option.some.inj h
  exact ⟨ds,es,h3,h5,rfl,(by rw[← List.length_append];exact len_line hc)⟩
 ·exact L2.no_ns h
theorem fc_cat (ha:PV X O a fa)(hb:PV X O b fb):PFc X O (.BinOp a .Add b pos) (fun ρ=>catL (fa ρ) (fb ρ)):=(pe_op op_catS ha hb).imp fun σ H Q zpat=>by
 obtain⟨hid,H0,ρ,ow,r,E,hf,k⟩:=zpat
 obtain⟨ds,es,h1,h2,zq4,hl⟩:=catL_some hf
 subst zq4
 refine⟨hid,H0,ρ,ow,_,E,h1,fun x H1 s1 D1=>⟨hid,H0,ρ,ow,_,E.mono s1,h2,fun y H2 s2 D2=>?_⟩⟩
 obtain⟨l,xs,rfl,q1,r1⟩:=den_lst D1
 obtain⟨m,ys,rfl,q2,r2⟩:=den_lst D2
 refine ⟨l,m,xs,ys,rfl,rfl,s2.seq ((del_same _ _).seq q1),(del_same _ _).seq q2,(by rw[r1.length,r2.length];exact hl),(fun p hp=>?_)⟩
 exact k _ _ _ ((s1.trans s2).trans (same_new hp)) ((s1.trans s2).free hp) upd_same (((r1.mono (del_mono s2 _)).append r2).mono (del_new (same_new hp) hp fun b z=>by rcases z with z | z;exact .inl (.inl z);rcases List.mem_cons.mp z with z | z;exact .inr z;exact .inl (.inr z)))
theorem fr_cat (ha:PR X O a fa)(hb:PR X O b fb):PFr X O (.BinOp a .Add b pos) (fun ρ=>catL (fa ρ) (fb ρ)):=(pe_op op_catS ha hb).imp fun σ H Q zpat=>by
 obtain⟨hid,H0,ρ,ow,r,E,hf,k⟩:=zpat
 obtain⟨ds,es,h1,h2,zq4,hl⟩:=catL_some hf
 subst zq4
 refine⟨hid,H0,ρ,ow,_,E,h1,fun x H1 s1 D1=>⟨hid,H0,ρ,ow,_,E.mono s1,h2,fun y H2 s2 D2=>?_⟩⟩
 obtain⟨l,xs,rfl,q1,r1⟩:=den_lst D1
 obtain⟨m,ys,rfl,q2,r2⟩:=den_lst D2
 refine ⟨l,m,xs,ys,rfl,rfl,s2.seq ((del_same _ _).seq q1),(del_same _ _).seq q2,(by rw[r1.length,r2.length];exact hl),(fun p hp=>?_)⟩
 exact k _ _ _ ((s1.trans s2).trans (same_new hp)) ((s1.trans s2).free hp) upd_same (((r1.mono (del_mono s2 _)).append r2).mono (del_new (same_new hp) hp fun b z=>by rcases z with z | z;exact .inl z;exact .inr (by simpa using z)))
def spR (K:PySem.W.Frag)(T:Ty)(F:List PyData->Option PyData):Sp:=fun vs H Q _=>∃ (hid:Addr->Prop) (ds:List PyData) (r:PyData),(∀ b,hid b->∃ vs:OwO,H b=some vs.ho)∧DenL K (del H hid) vs ds∧F ds=some r∧∀ v as H',Same H H'->(∀ p∈as,H p=none)->DenO K H' (del H' (uni hid as)) T v r as->Q v H'
def tFt (K:PySem.W.Frag)(O:Ow)(T:Ty)(f:Rho->Option PyData):TE:=fun σ H Q=>At5 K O f σ H fun hid H0 ρ ow d=>∀ v as H',Same H H'->(∀ p∈as,H p=none)->DenO K H' (del H' (uni hid (as++ow))) T v d as->Q v H'
abbrev PFt (X:Cx)(O:Ow)(T:Ty)(e:Expr)(f:Rho->Option PyData):Prop:=PE X e (tFt X.K O T f)
theorem uni_mono {hid:Addr->Prop}{as bs:List Addr}(h:∀ p∈as,p∈bs)(b:Addr)(z:uni hid as b):uni hid bs b:=by
 rcases z with z | z
 ·exact .inl z
 ·exact .inr (h b z)
theorem PFc.ft {f:Rho->Option (List PyData)}(h:PFc X O e f):PFt X O (.lst .cl) e (fun ρ=>(f ρ).map .list):=h.imp fun σ H Q zpat=>by
 obtain⟨hid,H0,ρ,ow,d,E,hf,k⟩:=zpat
 obtain⟨ds,h1,rfl⟩:=map_some hf
 refine⟨hid,H0,ρ,ow,ds,E,h1,fun l vs H' s n q D=>k (.ref l) [l] H' s (fun p hp=>by rw[List.mem_singleton.mp hp];exact n) (.lst q D.os (by simp))⟩
theorem PV.ft (h:PV X O e f):PFt X O .cl e f:=h.imp fun σ H Q ⟨hid,H0,ρ,ow,d,E,hf,k⟩=>⟨hid,H0,ρ,ow,d,E,hf,fun v H' s D=>k v [] H' s (fun p hp=>by cases hp) (.cl D)⟩
theorem r_call {k:Nat}{g:Addr}{fd:FuncData}{ps:List Str}{x:Str}{p:Pos}{T:Ty}{F:List PyData->Option PyData}(G:FnOk X.prog X.w X.K X.mg X.base CX0 k g fd ps (spR X.K T F))(hr:Room k X.A)(hg:Gl X x)(hm:X.mg x=some (.ref g))(hk:PySem.W.keepIn X.K (.ref g)=true)(hb:Binds X.K fd ps [])
  (ha:PAr X O (a::es) fs) (hdb:(x==("__debug__":Str))=false:=by decide) (he:starEach (a::es) X.env=(false,eval a X.env)::starEach es X.env:=by rfl) (hpl:(backTo pos (starEach es X.env)).any (·.1)=false:=by rfl) :
  PR X O (.Call (.Name x p) (a::es) [] pos) (fun ρ=>(fs ρ).bind F):=
 (pe_call G hr hg hm hk hb .nil pass0 ha hdb he hpl).imp fun σ H Q zpat=>by
  obtain⟨hid,H0,ρ,ow,r,E,hf,q⟩:=zpat
  obtain⟨ds,h1,h2⟩:=bind_some hf
  refine⟨hid,H0,ρ,ow,ds,E,h1,fun vs H1 s1 D1=>⟨hid,ds,r,(E.mono s1).ishL,by rw[List.append_nil];exact D1,h2,fun v as H2 s2 n2 D2=>q v H2 (s1.trans s2) ?_⟩⟩
  exact D2.raw (del_uni _ _ _) fun p hp o e=>by rw[del_out fun z=>(E.mono s1).ish p z (n2 p hp)];exact e
theorem ft_call {k:Nat}{g:Addr}{fd:FuncData}{ps:List Str}{x:Str}{p:Pos}{T:Ty}{F:List PyData->Option PyData}(G:FnOk X.prog X.w X.K X.mg X.base CX0 k g fd ps (spR X.K T F))(hr:Room k X.A)(hg:Gl X x)(hm:X.mg x=some (.ref g))(hk:PySem.W.keepIn X.K (.ref g)=true)(hb:Binds X.K fd ps [])
  (ha:PAv X O (a::es) fs) (hdb:(x==("__debug__":Str))=false:=by decide) (he:starEach (a::es) X.env=(false,eval a X.env)::starEach es X.env:=by rfl) (hpl:(backTo pos (starEach es X.env)).any (·.1)=false:=by rfl) :
  PFt X O T (.Call (.Name x p) (a::es) [] pos) (fun ρ=>(fs ρ).bind F):=
 (pe_call G hr hg hm hk hb .nil pass0 ha hdb he hpl).imp fun σ H Q zpat=>by
  obtain⟨hid,H0,ρ,ow,r,E,hf,q⟩:=zpat
  obtain⟨ds,h1,h2⟩:=bind_some hf
  refine⟨hid,H0,ρ,ow,ds,E,h1,fun vs H1 s1 D1=>⟨uni hid ow,ds,r,(E.mono s1).uniL,by rw[List.append_nil];exact D1,h2,fun v as H2 s2 n2 D2=>q v as H2 (s1.trans s2) (fun p hp=>s1.free (n2 p hp)) ?_⟩⟩
  refine D2.mono (del_sub fun b z=>?_) fun p _ o e=>e
  rcases z with z | z
  ·exact .inl (.inl z)
  ·rcases List.mem_append.mp z with z | z
   ·exact .inr z
   ·exact .inl (.inr z)
def tRt (K:PySem.W.Frag)(O:Ow)(U:List Nat)(T:Ty)(f:Rho->Option PyData):TE:=fun σ H Q=>∃ hid H0 ρ ow d A,EnvOk K O hid H0 σ H ρ ow∧OwnA K O hid σ H ρ ow A∧f ρ=some d∧∀ v as H',Same H H'->(∀ p∈as,H p=none∨∃ i∈U,p∈A i)->DenO K H' (del H' (uni hid (as++ow))) T v d as->Q v H'
def tRa (K:PySem.W.Frag)(O:Ow)(U:List Nat)(Ts:List Ty)(f:Rho->Option (List PyData)):TA:=fun σ H Q=>∃ hid H0 ρ ow ds A,EnvOk K O hid H0 σ H ρ ow∧OwnA K O hid σ H ρ ow A∧f ρ=some ds∧∀ vs as H',Same H H'->(∀ p∈as,H p=none∨∃ i∈U,p∈A i)->DenOp K H' (del H' (uni hid (as++ow))) Ts vs ds as->Q vs H'
abbrev PRt (X:Cx)(O:Ow)(U:List Nat)(T:Ty)(e:Expr)(f:Rho->Option PyData):Prop:=PE X e (tRt X.K O U T f)
abbrev PRa (X:Cx)(O:Ow)(U:List Nat)(Ts:List Ty)(es:List Expr)(f:Rho->Option (List PyData)):Prop:=PA X es (tRa X.K O U Ts f)
variable {T:Ty}{Ts:List Ty}{U U':List Nat}
theorem PFt.rt (h:PFt X O T e f):PRt X O [] T e f:=h.imp fun σ H Q zpat=>by
 obtain⟨hid,H0,ρ,ow,d,A,E,EA,hf,k⟩:=zpat
 exact⟨hid,H0,ρ,ow,d,E,hf,fun v as H' s n D=>k v as H' s (fun p hp=>.inl (n p hp)) D⟩
def SpecCall (K:PySem.W.Frag)(r:List V->Hp->VK->Prop)(g:List PyData->Option PyData):Prop:=∀ xs H ds d Q,DenL K H xs ds->g ds=some d->(∀ v,Sc v d->Q v H)->r xs H Q
structure CallD (X:Cx)(u:Value)(g:List PyData->Option PyData):Prop where
 ex:∃ r,CallR X u r∧SpecCall X.K r g
theorem v_callB {x:Str}{p:Pos}{id:String}{g:List PyData->Option PyData}(C:CallD X (.builtin id) g)(hg:Gl X x)(hm:X.mg x=none)(hv:bootBuiltins x=some (.builtin id))(ha:PAr X O (a::es) fs)(hn:x≠"__name__":=by decide)(hdb:(x==("__debug__":Str))=false:=by decide)
  (he:starEach (a::es) X.env=(false,eval a X.env)::starEach es X.env:=by rfl) (hpl:(backTo pos (starEach es X.env)).any (·.1)=false:=by rfl):PV X O (.Call (.Name x p) (a::es) [] pos) (fun ρ=>(fs ρ).bind g):=by
 obtain⟨r,hc,hs⟩:=C.ex
 refine (pe_callB hc hg hm hv ha hn hdb he hpl).imp fun σ H Q zpat=>?_
 obtain⟨hid,H0,ρ,ow,d,E,hf,q⟩:=zpat
 obtain⟨ds,h1,h2⟩:=bind_some hf
 exact⟨hid,H0,ρ,ow,ds,E,h1,fun vs H1 s1 D1=>hs vs H1 ds d Q (D1.mono (del_same _ _)) h2 fun v S=>q v H1 s1 S.den⟩
theorem v_callT {x:Str}{p:Pos}{T:String}{g:List PyData->Option PyData}(C:CallD X (.type T) g)(hg:Gl X x)(hm:X.mg x=none)(hv:bootBuiltins x=some (.type T))(ha:PAr X O (a::es) fs)(hn:x≠"__name__":=by decide)(hdb:(x==("__debug__":Str))=false:=by decide)
  (he:starEach (a::es) X.env=(false,eval a X.env)::starEach es X.env:=by rfl) (hpl:(backTo pos (starEach es X.env)).any (·.1)=false:=by rfl):PV X O (.Call (.Name x p) (a::es) [] pos) (fun ρ=>(fs ρ).bind g):=by
 obtain⟨r,hc,hs⟩:=C.ex
 refine (pe_callTy hc hg hm hv ha hn hdb he hpl).imp fun σ H Q zpat=>?_
 obtain⟨hid,H0,ρ,ow,d,E,hf,q⟩:=zpat
 obtain⟨ds,h1,h2⟩:=bind_some hf
 exact⟨hid,H0,ρ,ow,ds,E,h1,fun vs H1 s1 D1=>hs vs H1 ds d Q (D1.mono (del_same _ _)) h2 fun v S=>q v H1 s1 S.den⟩
def absD (ds:List PyData):Option PyData:=(one ds).bind fun d=>(intO d).map fun i=>.int (if i<0 then -i else i)
def lenD (ds:List PyData):Option PyData:=(one ds).bind fun d=>(seqD d).map fun es=>.int es.length
def maxD (ds:List PyData):Option PyData:=(two ds).bind fun p=>int2 (fun i j=>.int (if j>i then j else i)) p.1 p.2
def minD (ds:List PyData):Option PyData:=(two ds).bind fun p=>int2 (fun i j=>.int (if j<i then j else i)) p.1 p.2
def intB:PyData->Option PyData
 | .int i=>some (.int i)
 | .bool b=>some (.int (if b then 1 else 0))
 | _=>none
def intD (ds:List PyData):Option PyData:=(one ds).bind intB
theorem one_den {K:PySem.W.Frag}{H:Hp}{vs:List V}{d:PyData}(h:DenL K H vs [d]):∃ v,vs=[v]∧Den K H v d:=by
 obtain⟨v,ws,zq2,h1,h2⟩:=denl_cons h
 subst zq2
 rw[denl_nil h2]
 exact⟨v,rfl,h1⟩
theorem two_den {K:PySem.W.Frag}{H:Hp}{vs:List V}{d e:PyData}(h:DenL K H vs [d,e]):∃ v w,vs=[v,w]∧Den K H v d∧Den K H w e:=by
 obtain⟨v,ws,zq2,h1,h2⟩:=denl_cons h
 subst zq2
 obtain⟨w,zq1,h3⟩:=one_den h2
 subst zq1
 exact ⟨v,w,rfl,h1,h3⟩
theorem b_abs:CallD X (.builtin "abs") absD:=⟨_,call_abs,fun xs H ds d Q D h k=>by
 obtain⟨e,h1,h⟩:=bind_some h
 obtain⟨i,h2,rfl⟩:=map_some h
 obtain rfl:=one_some h1
 obtain rfl:=intO_some h2
 obtain⟨v,zq1,D1⟩:=one_den D
 subst zq1
 exact⟨_,by rw[den_int D1],k _ (.int _)⟩⟩
theorem b_len:CallD X (.builtin "len") lenD:=⟨_,call_len_seq,fun xs H ds d Q D h k=>by
 obtain⟨e,h1,h⟩:=bind_some h
 obtain⟨es,h2,rfl⟩:=map_some h
 obtain rfl:=one_some h1
 obtain⟨v,zq1,D1⟩:=one_den D
 subst zq1
 rcases seqD_some h2 with rfl | rfl
 ·obtain⟨p,vs,rfl,q,r⟩:=den_lst D1
  exact ⟨p,vs,rfl,.inl q,(by rw[r.length];exact k _ (.int _))⟩
 ·obtain⟨p,vs,rfl,q,r⟩:=den_tup D1
  exact ⟨p,vs,rfl,.inr q,(by rw[r.length];exact k _ (.int _))⟩⟩
theorem two_ints {K:PySem.W.Frag}{H:Hp}{vs:List V}{ds:List PyData}{g:Int->Int->PyData}{r:PyData}(D:DenL K H vs ds)(h:((two ds).bind fun p=>int2 g p.1 p.2)=some r):∃ i j,vs=[.int i,.int j]∧r=g i j:=by
 obtain⟨p,h1,h⟩:=bind_some h
 obtain⟨i,j,h2,h3,h4⟩:=int2_some h
 obtain rfl:=two_some h1
 rw[h2,h3] at D
 obtain⟨v,w,zq2,D1,D2⟩:=two_den D
 subst zq2
 exact ⟨i,j,(by rw[den_int D1,den_int D2]),h4⟩
theorem b_max (hc:X.calm=true):CallD X (.builtin "max") maxD:=⟨_,call_max2 hc,fun xs H ds d Q D h k=>by
 obtain⟨i,j,h1,h2⟩:=two_ints D h
 subst h2
 exact ⟨i,j,h1,k _ (.int _)⟩⟩
theorem b_min (hc:X.calm=true):CallD X (.builtin "min") minD:=⟨_,call_min2 hc,fun xs H ds d Q D h k=>by
 obtain⟨i,j,h1,h2⟩:=two_ints D h
 subst h2
 exact ⟨i,j,h1,k _ (.int _)⟩⟩
theorem b_int:CallD X (.type "int") intD:=⟨_,call_int1,fun xs H ds d Q D h k=>by
 obtain⟨e,h1,h⟩:=bind_some h
 obtain rfl:=one_some h1
 obtain⟨v,zq1,D1⟩:=one_den D
 subst zq1
 cases e with
 | int i=>
  obtain rfl:=Option.some.inj h
  exact .inl ⟨_,by rw[den_int D1],k _ (.int _)⟩
 | bool b=>
  obtain rfl:=Option.some.inj h
  exact .inr ⟨_,by rw[den_bl D1],k _ (.int _)⟩
 | _=>exact L2.no_ns h⟩
theorem fr_list {p:Pos}(hg:Gl X "list")(hm:X.mg "list"=none)(ha:PR X O a fa)(he:starEach [a] X.env=(false,eval a X.env)::starEach [] X.env:=by rfl)(hpl:(backTo pos (starEach [] X.env)).any (·.1)=false:=by rfl)
  (hv:bootBuiltins "list"=some (.type "list"):=by first | exact PySem.boot_list | rfl):PFr X O (.Call (.Name "list" p) [a] [] pos) (fun ρ=>(fa ρ).bind seqD):=
 (pe_callTy call_list_of hg hm hv (pa_cons ha pa_nil he) (by decide) (by decide) he hpl).imp fun σ H Q zpat=>by
  obtain⟨hid,H0,ρ,ow,r,E,hf,k⟩:=zpat
  obtain⟨d,h1,h2⟩:=bind_some hf
  refine⟨hid,H0,ρ,ow,d,E,h1,fun x H1 s1 D1=>?_⟩
  rcases seqD_some h2 with rfl | rfl
  ·obtain⟨q,vs,rfl,q1,r1⟩:=den_lst D1
   exact ⟨q,vs,rfl,.inl ((del_same _ _).seq q1),(fun l hl=>k l vs _ (s1.trans (same_new hl)) (s1.free hl) upd_same (r1.mono (del_new (same_new hl) hl fun b z=>by rcases z with z | z;exact .inl z;exact .inr (by simpa using z))))⟩
  ·obtain⟨q,vs,rfl,q1,r1⟩:=den_tup D1
   exact ⟨q,vs,rfl,.inr ((del_same _ _).tup q1),(fun l hl=>k l vs _ (s1.trans (same_new hl)) (s1.free hl) upd_same (r1.mono (del_new (same_new hl) hl fun b z=>by rcases z with z | z;exact .inl z;exact .inr (by simpa using z))))⟩
end
end L2
namespace L2
variable [Reg]
inductive TGi (K:PySem.W.Frag)(O:Ow)(S:PyData->Rho->Option Rho)(v:V)(σ:St)(H:Hp)(Q:St->Hp->Prop):Prop
 | mk (hid:Addr->Prop) (H0:Hp) (ρ:Rho) (ow:List Addr) (d:PyData) (ρ':Rho) (E:EnvOk K O hid H0 σ H ρ ow) (D:Den K (del H (uni hid ow)) v d) (hs:S d ρ=some ρ') (k:∀ σ',EnvOk K O hid H0 σ' H ρ' ow->Q σ' H):TGi K O S v σ H Q
def tG (K:PySem.W.Frag)(O:Ow)(S:PyData->Rho->Option Rho):TG:=fun v σ H Q=>TGi K O S v σ H Q
inductive TGsi (K:PySem.W.Frag)(O:Ow)(S:List PyData->Rho->Option Rho)(vs:List V)(σ:St)(H:Hp)(Q:St->Hp->Prop):Prop
 | mk (hid:Addr->Prop) (H0:Hp) (ρ:Rho) (ow:List Addr) (ds:List PyData) (ρ':Rho) (E:EnvOk K O hid H0 σ H ρ ow) (D:DenL K (del H (uni hid ow)) vs ds) (hs:S ds ρ=some ρ') (k:∀ σ',EnvOk K O hid H0 σ' H ρ' ow->Q σ' H):TGsi K O S vs σ H Q
def tGs (K:PySem.W.Frag)(O:Ow)(S:List PyData->Rho->Option Rho):TGs:=fun vs σ H Q=>TGsi K O S vs σ H Q
abbrev PGv (X:Cx)(O:Ow)(tg:Expr)(S:PyData->Rho->Option Rho):Prop:=PG X tg (tG X.K O S)
abbrev PGsv (X:Cx)(O:Ow)(tg:List Expr)(S:List PyData->Rho->Option Rho):Prop:=PGs X tg (tGs X.K O S)
def setS (i:Nat)(d:PyData)(ρ:Rho):Option Rho:=some (ρ.set i (some d))
def consS (S:PyData->Rho->Option Rho)(T:List PyData->Rho->Option Rho):List PyData->Rho->Option Rho
 | d::r,ρ=>(S d ρ).bind (T r)
 | [],_=>none
def nilS:List PyData->Rho->Option Rho
 | [],ρ=>some ρ
 | _::_,_=>none
def tupS (n:Nat)(T:List PyData->Rho->Option Rho):PyData->Rho->Option Rho
 | .tuple ds,ρ=>if ds.length=n then T ds ρ else none
 | _,_=>none
section
variable {X:Cx}{O:Ow}{pos:Pos}
theorem g_name {i:Nat}{x:Str}(hN:X.N.Nodup)(hi:X.N[i]?=some x)(hx:Loc X.env.scope x)(hO:O.s.lookup i=none:=by rfl)(hf:X.fn x=true∨X.env.scope.names.lookup x=some .local:=by first | exact .inl rfl | exact .inr rfl | assumption):PGv X O (.Name x pos) (setS i):=
 (pg_name hN hi hx hf).imp fun v σ H Q zpat=>by
  obtain⟨hid,H0,ρ,ow,d,ρ',E,D,hS,k⟩:=zpat
  obtain rfl:=Option.some.inj hS
  exact k _ (E.set hO D)
theorem gs_nil:PGsv X O [] nilS:=pgs_nil.imp fun vs σ H Q zpat=>by
 obtain⟨hid,H0,ρ,ow,ds,ρ',E,D,hS,k⟩:=zpat
 cases ds with
 | nil=>cases hS;exact⟨denl_nil D,k _ E⟩
 | cons d r=>exact L2.no_ns hS
theorem gs_cons {e:Expr}{es:List Expr}{S:PyData->Rho->Option Rho}{T:List PyData->Rho->Option Rho}(h1:PGv X O e S)(h2:PGsv X O es T)(hs:(assignEach (e::es) X.env).map (·.2)=assign e X.env::(assignEach es X.env).map (·.2):=by rfl):PGsv X O (e::es) (consS S T):=
 (pgs_cons h1 h2 hs).imp fun vs σ H Q zpat=>by
  obtain⟨hid,H0,ρ,ow,ds,ρ',E,D,hS,k⟩:=zpat
  cases ds with
  | nil=>exact L2.no_ns hS
  | cons d r=>
   obtain⟨v,ws,zq2,D1,D2⟩:=denl_cons D
   subst zq2
   obtain⟨ρ1,h3,h4⟩:=bind_some hS
   exact⟨v,ws,rfl,hid,H0,ρ,ow,d,ρ1,E,D1,h3,fun σ1 E1=>⟨hid,H0,ρ1,ow,r,ρ',E1,D2,h4,k⟩⟩
theorem g_tup {es:List Expr}{k n:Nat}{T:List PyData->Rho->Option Rho}(hc:X.calm=true)(h:PGsv X O es T)(hn:(assignEach es X.env).length=n:=by rfl)(hst:(assignEach es X.env).findIdx? (·.1)=none:=by rfl):PGv X O (.Tuple es k pos) (tupS n T):=
 (pg_tup hc h hn hst).imp fun v σ H Q zpat=>by
  obtain⟨hid,H0,ρ,ow,d,ρ',E,D,hS,k⟩:=zpat
  cases d with
  | tuple ds=>
   rw[tupS] at hS
   split at hS
   ·rename_i hl
    obtain⟨a,vs,rfl,q,r⟩:=den_tup D
    exact⟨a,vs,rfl,(del_same _ _).tup q,by rw[r.length];exact hl,hid,H0,ρ,ow,ds,ρ',E,r,hS,k⟩
   ·exact L2.no_ns hS
  | _=>exact L2.no_ns hS
end
structure GoodIt (K:PySem.W.Frag)(J:It)(G:Hp)(ds:List PyData):Prop where
 go:∀ H2 i,Same G H2->i<ds.length->J.go i H2
 yld:∀ H2 i x H3 d,Same G H2->ds[i]?=some d->J.yld i H2 x H3->(H3=H2∧Den K G x d)∨∃ p vs es,H2 p=none∧H3=upd H2 p (.tup vs)∧x=.ref p∧d=.tuple es∧DenL K G vs es
 stop:∀ H2,Same G H2->J.stop ds.length H2
def tIr (K:PySem.W.Frag)(O:Ow)(f:Rho->Option (List PyData)):TI:=fun σ H R=>At5 K O f σ H fun hid H0 ρ ow ds=>∀ J H',Same H H'->GoodIt K J (del H' hid) ds->R J H'
def tIv (K:PySem.W.Frag)(O:Ow)(f:Rho->Option (List PyData)):TI:=fun σ H R=>At5 K O f σ H fun hid H0 ρ ow ds=>∀ J H',Same H H'->GoodIt K J (del H' (uni hid ow)) ds->R J H'
abbrev PIr (X:Cx)(O:Ow)(tg iter:Expr)(f:Rho->Option (List PyData)):Prop:=PI X tg iter (tIr X.K O f)
abbrev PIv (X:Cx)(O:Ow)(tg iter:Expr)(f:Rho->Option (List PyData)):Prop:=PI X tg iter (tIv X.K O f)
theorem good_list {K:PySem.W.Frag}{G:Hp}{a:Addr}{xs:List V}{ds:List PyData}(q:SqL K G a xs)(r:DenL K G xs ds):GoodIt K (Itl K a) G ds where
 go:=fun H2 i s h=>by
  have hl:i<xs.length:=by rw[r.length];exact h
  exact ⟨xs,xs[i],s.seq q,(by simp[hl])⟩
 yld:=fun H2 i x H3 d s h y=>by
  revert y
  refine fun zqq=>?_;obtain⟨zq0,y⟩:=zqq
  subst zq0
  obtain⟨v,h1,h2⟩:=r.get h
  have:=y xs (s.seq q)
  rw[h1] at this
  obtain rfl:=Option.some.inj this
  exact .inl ⟨rfl,h2⟩
 stop:=fun H2 s=>⟨xs,s.seq q,by rw[r.length];exact Nat.le_refl _⟩
def rngL (lo:Int)(n:Nat):List PyData:=(List.range n).map fun i=>.int (lo+(i:Nat))
theorem good_rng {K:PySem.W.Frag}{G:Hp}(lo:Int)(n:Nat):GoodIt K (Itr lo n) G (rngL lo n) where
 go:=fun H2 i s h=>by
  have:i<n:=by simpa [rngL] using h
  exact this
 yld:=fun H2 i x H3 d s h y=>by
  revert y
  refine fun zqq=>?_;obtain⟨zq0,zq1⟩:=zqq
  subst zq0
  subst zq1
  have:i<n∧PyData.int (lo+i)=d:=by
   unfold rngL at h
   rw[List.getElem?_map] at h
   cases e:(List.range n)[i]? with
   | none=>rw[e] at h;cases h
   | some j=>
    rw[e] at h
    obtain⟨h1,h2⟩:=List.getElem?_eq_some_iff.mp e
    have h3:i=j:=by simpa using h2
    subst h3
    exact⟨by simpa using h1,Option.some.inj h⟩
  rw[← this.2]
  exact .inl ⟨rfl,.int _⟩
 stop:=fun H2 s=>by
  show n≤(rngL lo n).length
  simp[rngL]
section
variable {X:Cx}{O:Ow}{pos p:Pos}{tg e:Expr}{f:Rho->Option PyData}
theorem ir_list (h:PR X O e f):PIr X O tg e (fun ρ=>(f ρ).bind listD):=(pi_list h).imp fun σ H R zpat=>by
 obtain⟨hid,H0,ρ,ow,ds,E,hf,k⟩:=zpat
 obtain⟨d,h1,h2⟩:=bind_some hf
 rw[listD_some h2] at h1
 refine⟨hid,H0,ρ,ow,_,E,h1,fun v H' s D=>?_⟩
 obtain⟨a,xs,rfl,q,r⟩:=den_lst D
 exact⟨a,rfl,⟨xs,(del_same _ _).seq q⟩,k _ H' s (good_list q r)⟩
theorem iv_list (h:PV X O e f):PIv X O tg e (fun ρ=>(f ρ).bind listD):=(pi_list h).imp fun σ H R zpat=>by
 obtain⟨hid,H0,ρ,ow,ds,E,hf,k⟩:=zpat
 obtain⟨d,h1,h2⟩:=bind_some hf
 rw[listD_some h2] at h1
 refine⟨hid,H0,ρ,ow,_,E,h1,fun v H' s D=>?_⟩
 obtain⟨a,xs,rfl,q,r⟩:=den_lst D
 exact⟨a,rfl,⟨xs,(del_same _ _).seq q⟩,k _ H' s (good_list q r)⟩
def rng1D (ds:List PyData):Option (List PyData):=(one ds).bind fun d=>(intO d).bind fun j=>if decide (j.natAbs<2 ^ 61)=true then some (rngL 0 j.toNat) else none
theorem nat_62 {j:Int}(h:j.natAbs<2 ^ 61):-(2 ^ 62)≤j∧j<2 ^ 62:=by omega
variable {a b:Expr}{fs:Rho->Option (List PyData)}
theorem rng1D_some {ds es:List PyData}(h:rng1D ds=some es):∃ j,ds=[.int j]∧-(2 ^ 62)≤j∧j<2 ^ 62∧es=rngL 0 j.toNat:=by
 obtain⟨d,h1,g1⟩:=bind_some h
 obtain⟨j,h2,g2⟩:=bind_some g1
 obtain rfl:=one_some h1
 obtain rfl:=intO_some h2
 split at g2
 ·rename_i hc
  have hc':=nat_62 (of_decide_eq_true hc)
  exact⟨j,rfl,hc'.1,hc'.2,(Option.some.inj g2).symm⟩
 ·exact L2.no_ns g2
theorem iv_rng1 (hg:Gl X "range")(hm:X.mg "range"=none)(ha:PAr X O [a] fs)(hs:starEach [a] X.env=[(false,eval a X.env)]:=by rfl):PIv X O tg (.Call (.Name "range" p) [a] [] pos) (fun ρ=>(fs ρ).bind rng1D):=
 (pi_range1 hg hm ha hs).imp fun σ H R zpat=>by
  obtain⟨hid,H0,ρ,ow,ds,E,hf,k⟩:=zpat
  obtain⟨es,h1,h2⟩:=bind_some hf
  obtain⟨j,zq1,h3,h4,zq4⟩:=rng1D_some h2
  subst zq1
  subst zq4
  refine⟨hid,H0,ρ,ow,_,E,h1,fun vs H' s D=>?_⟩
  obtain⟨v,zq1,D1⟩:=one_den D
  subst zq1
  exact⟨j,by rw[den_int D1],h3,h4,k _ H' s (good_rng 0 j.toNat)⟩
end
theorem GoodIt.mono {K:PySem.W.Frag}{J:It}{G G':Hp}{ds:List PyData}(h:GoodIt K J G ds)(s:Same G G'):GoodIt K J G' ds where
 go:=fun H2 i e hi=>h.go H2 i (s.trans e) hi
 yld:=fun H2 i x H3 d e hd y=>by
  rcases h.yld H2 i x H3 d (s.trans e) hd y with ⟨a,b⟩ | ⟨p,vs,es,a,b,c,d',e'⟩
  ·exact .inl ⟨a,b.mono s⟩
  ·exact .inr ⟨p,vs,es,a,b,c,d',e'.mono s⟩
 stop:=fun H2 e=>h.stop H2 (s.trans e)
theorem GoodIt.step {K:PySem.W.Frag}{J:It}{G H2 H3:Hp}{ds:List PyData}{P:Addr->Prop}{i:Nat}{x:V}{d:PyData}(Gd:GoodIt K J G ds)(into:Same G (del H2 P))(np:∀ p,H2 p=none->¬ P p)(hd:ds[i]?=some d)(y:J.yld i H2 x H3):Same H2 H3∧Den K (del H3 P) x d:=by
 rcases Gd.yld H2 i x H3 d (into.trans (del_same _ _)) hd y with ⟨rfl,Dx⟩ | ⟨p,vs,es,hp,rfl,rfl,hde,De⟩
 ·exact⟨Same.refl _,Dx.mono into⟩
 ·refine⟨same_new hp,?_⟩
  rw[hde]
  exact .tup (SqT.of (by rw[del_out (np p hp),upd_same])) ((De.mono into).mono (del_mono (same_new hp) _))
inductive Mid (ds:List PyData)(i m:Nat)(rest:List PyData):Prop
 | mk (pre:List PyData) (e:ds=pre++rest) (hi:pre.length=i) (hm:rest.length=m):Mid ds i m rest
theorem Mid.start (ds:List PyData):Mid ds 0 ds.length ds:=⟨[],rfl,rfl,rfl⟩
theorem Mid.fin {ds:List PyData}{i m:Nat}(h:Mid ds i m []):i=ds.length:=by
 cases h with
 | mk pre e hi hm=>rw[e,List.append_nil,hi]
theorem Mid.cut {ds:List PyData}{i m:Nat}{d:PyData}{r:List PyData}(h:Mid ds i m (d::r)):i<ds.length∧ds[i]?=some d∧∃ m',m'<m∧Mid ds (i+1) m' r:=by
 cases h with
 | mk pre e hi hm=>
  subst e hi hm
  refine⟨by rw[List.length_append];exact Nat.lt_add_of_pos_right (Nat.zero_lt_succ _),by rw[List.getElem?_append_right (Nat.le_refl _),Nat.sub_self];rfl,r.length,Nat.lt_succ_self _,pre++[d],by rw[List.append_assoc];rfl,by rw[List.length_append];rfl,rfl⟩
theorem PIv.raw {X:Cx}{O:Ow}{tg e:Expr}{f:Rho->Option (List PyData)}(h:PIv X O tg e f):PIr X O tg e f:=h.imp fun σ H R ⟨hid,H0,ρ,ow,ds,E,hf,k⟩=>⟨hid,H0,ρ,ow,ds,E,hf,fun J H' s G=>k J H' s (G.mono (del_uni _ _ _))⟩
abbrev O0:Ow:=⟨[],.cl⟩
def compD (S:PyData->Rho->Option Rho)(ft:Rho->Option Bool)(fe:Rho->Option PyData):List PyData->Rho->Option (List PyData)
 | [],_=>some []
 | d::r,ρ=>(S d ρ).bind fun ρ1=>(ft ρ1).bind fun c=>if c=true then (fe ρ1).bind fun y=>(compD S ft fe r ρ1).map (y::·) else compD S ft fe r ρ1
def compO (S:PyData->Rho->Option Rho)(ft:Rho->Option Bool)(fe:Rho->Option PyData)(x:Option (List PyData))(ρ:Rho):Option (List PyData):=x.bind fun ds=>if decide (ds.length≤1000)=true then compD S ft fe ds ρ else none
abbrev PIfv (X:Cx)(ifs:List Expr)(ft:Rho->Option Bool):Prop:=PIf X ifs (tT X.K O0 ft)
theorem if_nil {X:Cx}:PIfv X [] (fun _=>some true):=fun pins s σ H Q I zpat=>by
 obtain⟨hid,H0,ρ,ow,b,E,hf,k⟩:=zpat
 obtain rfl:=Option.some.inj hf
 exact pif_nil pins s σ H Q I (k H (Same.refl H))
theorem if_one {X:Cx}{c:Expr}{ft:Rho->Option Bool}(h:PTv X O0 c ft):PIfv X [c] ft:=pif_one h
def frees (k:Nat)(ix:List Nat)(ρ:Rho):Rho:=List.replicate k none++ix.map fun i=>(ρ[i]?).join
theorem frees_ok {K:PySem.W.Frag}{O:Ow}{hid hid':Addr->Prop}{H0 H H':Hp}{σ:St}{ρ:Rho}{ow:List Addr}(E:EnvOk K O hid H0 σ H ρ ow)(s:Same H H')(hs:Same (del H hid) (del H' hid'))(hh:∀ b,hid' b->∃ vs:OwO,H' b=some vs.ho)(k:Nat)(ix:List Nat):EnvOk K O0 hid' H (stComp k ix σ) H' (frees k ix ρ) []:=by
 refine⟨?_,fun b o e=>(by rw[del_out (by simp)];exact s b o e),fun i d _ h=>?_,⟨fun _=>[],fun i t d h=>(by cases h),fun i j p _ h=>(by cases h),fun i p h=>(by cases h)⟩,fun l h=>(by cases h),hh,fun _=>rfl⟩
 ·unfold frees stComp
  simp
 ·rw[uni_nil]
  unfold frees at h
  unfold stComp
  by_cases hi:i<k
  ·rw[List.getElem?_append_left (by simpa using hi),List.getElem?_replicate,if_pos hi] at h
   cases h
  ·have hj:k≤i:=Nat.le_of_not_lt hi
   rw[List.getElem?_append_right (by simpa using hj),List.getElem?_map] at h
   rw[List.getElem?_append_right (by simpa using hj),List.getElem?_map]
   simp only[List.length_replicate] at h ⊢
   cases q:ix[i - k]? with
   | none=>rw[q] at h;cases h
   | some j=>
    rw[q] at h
    have h':(ρ[j]?).join=some d:=Option.some.inj h
    obtain⟨v,h1,h2⟩:=E.raw (join_some h')
    exact⟨v,by simp[h1],h2.mono hs⟩
theorem EnvOk.updHid {K:PySem.W.Frag}{O:Ow}{hid:Addr->Prop}{H0 H:Hp}{σ:St}{ρ:Rho}{ow:List Addr}(E:EnvOk K O hid H0 σ H ρ ow){l:Addr}{ws:List V}(hl:hid l)(h0:H0 l=none):EnvOk K O hid H0 σ (upd H l (.lst ws)) ρ ow:=by
 have ed:del (upd H l (.lst ws)) (uni hid ow)=del H (uni hid ow):=del_upd (.inl hl)
 have nl:∀ l'∈ow,l'≠l:=fun l' h z=>(E.isl l' h).2 (z▸hl)
 refine⟨E.len,fun b u e=>?_,fun i d hi h=>by rw[ed];exact E.val i d hi h,?_,fun l' h=>?_,fun b hb=>?_,E.emp⟩
 ·have hne:b≠l:=ne_of_none e h0
  have q:=E.base b u e
  by_cases hb:b∈ow
  ·rw[del_in hb] at q;cases q
  ·rw[del_out hb] at q ⊢
   rw[upd_ne hne]
   exact q
 ·obtain⟨A,a1,a2,a3⟩:=E.own
  refine⟨A,fun i t d hi h=>?_,a2,a3⟩
  obtain⟨v,q,r⟩:=a1 i t d hi h
  exact⟨v,q,by rw[ed];exact r.mono (Same.refl _) fun p hp o e=>by rw[upd_ne (nl p (a3 i p hp))];exact e⟩
 ·obtain⟨⟨vs,q⟩,n⟩:=E.isl l' h
  exact⟨⟨vs,by rw[upd_ne (nl l' h)];exact q⟩,n⟩
 ·by_cases hne:b=l
  ·subst hne;rw[upd_same];exact⟨.l _,rfl⟩
  ·rw[upd_ne hne];exact E.ishL b hb
inductive CIv (K:PySem.W.Frag)(hid:Addr->Prop)(H H1:Hp)(D:Addr)(S:PyData->Rho->Option Rho)(ft:Rho->Option Bool)(fe:Rho->Option PyData)(ds out:List PyData)(i m:Nat)(τ:St)(H2:Hp):Prop
 | mk (ρ2:Rho) (ys:List V) (done rest left:List PyData) (hM:Mid ds i m left) (E2:EnvOk K O0 (uni hid [D]) H τ H2 ρ2 []) (s2:Same H1 H2) (hy:H2 D=some (.lst ys)) (hd:DenL K (del H2 (uni hid [D])) ys done) (hr:compD S ft fe left ρ2=some rest) (ho:out=done++rest) (hl:done.length≤i):CIv K hid H H1 D S ft fe ds out i m τ H2
theorem uniD {hid:Addr->Prop}{D b:Addr}(z:uni hid [D] b):hid b∨b=D:=z.imp id List.mem_singleton.mp
theorem comp_imp {K:PySem.W.Frag}{O:Ow}{fi:Rho->Option (List PyData)}{S:PyData->Rho->Option Rho}{ft:Rho->Option Bool}{fe:Rho->Option PyData}{k:Nat}{ix:List Nat}:∀ σ H Q,tFr K O (fun ρ=>compO S ft fe (fi ρ) (frees k ix ρ)) σ H Q->tComp (tIr K O fi) (tG K O0 S) (tT K O0 ft) (tR K O0 fe) (stComp k ix) σ H Q:=fun σ H Q zpat=>by
 obtain⟨hid,H0,ρ,ow,out,E,hf,q⟩:=zpat
 obtain⟨ds,h1,h2⟩:=bind_some hf
 split at h2
 case isFalse=>cases h2
 rename_i hlen
 have hz:ds.length≤1000:=of_decide_eq_true hlen
 clear hf hlen
 refine⟨hid,H0,ρ,ow,ds,E,h1,fun J H1 s1 G D hD=>?_⟩
 clear h1
 have hDH:H D=none:=s1.free hD
 have hDh:uni hid [D] D:=.inr List.mem_cons_self
 refine⟨CIv K hid H H1 D S ft fe ds out,⟨ds.length,.mk (frees k ix ρ) [] [] out ds (.start ds) ?_ (same_new hD) upd_same .nil h2 rfl (Nat.le_refl _)⟩,fun i m τ H2 zp=>?_⟩
 ·refine frees_ok E (s1.trans (same_new hD)) (del_new (s1.trans (same_new hD)) hDH fun b z=>uniD z) (fun b z=>?_) k ix
  rcases uniD z with z | z
  ·obtain⟨vs,e⟩:=E.ishL b z
   exact⟨vs,(s1.trans (same_new hD)) _ _ e⟩
  ·rw[z,upd_same]
   exact⟨.l _,rfl⟩
 ·obtain⟨ρ2,ys,done,rest,left,hM,E2,s2,hy,hd,hr,ho,hdl⟩:=zp
  have into:Same (del H1 hid) (del H2 (uni hid [D])):=del_new s2 hD fun b z=>uniD z
  have keep:Same (del H1 hid) H2:=into.trans (del_same _ _)
  cases left with
  | nil=>
   obtain rfl:=hM.fin
   rw[compD] at hr
   obtain rfl:=Option.some.inj hr
   rw[List.append_nil] at ho
   subst ho
   exact .inl ⟨G.stop H2 keep,q D ys H2 (s1.trans s2) hDH hy hd⟩
  | cons d r=>
   obtain⟨hlt,hdi,m',hm',hM'⟩:=hM.cut
   rw[compD] at hr
   obtain⟨ρ3,g1,hr⟩:=bind_some hr
   obtain⟨c,g2,hr⟩:=bind_some hr
   refine .inr ⟨G.go H2 i keep hlt,CIv K hid H H1 D S ft fe ds out (i+1) m',fun τ' H' z=>⟨m',hm',z⟩,fun x H3 y=>?_⟩
   obtain⟨s23,Dx⟩:=G.step into (fun p hp z=>E2.fresh hp (.inl z)) hdi y
   rw[← uni_nil (uni hid [D])] at Dx
   refine⟨uni hid [D],H,ρ2,[],d,ρ3,E2.mono s23,Dx,g1,fun τ3 E3=>⟨uni hid [D],H,ρ3,[],c,E3,g2,fun H5 s5=>?_⟩⟩
   have sA:Same H2 H5:=s23.trans s5
   clear Dx g1 g2 y
   cases c with
   | false=>
    dsimp only
    rw[if_neg Bool.false_ne_true] at hr ⊢
    exact .mk ρ3 ys done rest r hM' (E3.mono s5) (s2.trans sA) (sA _ _ hy) (hd.mono (del_mono sA _)) hr ho (Nat.le_succ_of_le hdl)
   | true=>
    dsimp only
    rw[if_pos rfl] at hr ⊢
    obtain⟨yv,g3,hr⟩:=bind_some hr
    obtain⟨rest2,g4,rfl⟩:=map_some hr
    refine⟨uni hid [D],H,ρ3,[],yv,E3.mono s5,g3,fun y H6 s6 Dy=>?_⟩
    have sB:Same H2 H6:=sA.trans s6
    refine⟨ys,sB _ _ hy,?_,.mk ρ3 (ys++[y]) (done++[yv]) rest2 r hM' (((E3.mono s5).mono s6).updHid hDh hDH) (fun b o e=>?_) upd_same ?_ g4 ?_ ?_⟩
    ·rw[hd.length]
     exact Nat.lt_of_le_of_lt hdl (Nat.lt_of_lt_of_le hlt (Nat.le_trans hz (by decide)))
    ·rw[upd_ne (ne_of_none e hD)]
     exact sB b o (s2 b o e)
    ·rw[del_upd hDh]
     exact (hd.mono (del_mono sB _)).append (.cons Dy .nil)
    ·rw[ho,List.append_assoc];rfl
    ·rw[List.length_append]
     exact Nat.succ_le_succ hdl
theorem fr_comp {X:Cx}{O:Ow}{elt tg iter:Expr}{ifs:List Expr}{scope:Scope}{pos:Pos}{fi:Rho->Option (List PyData)}{S:PyData->Rho->Option Rho}{ft:Rho->Option Bool}{fe:Rho->Option PyData}{k:Nat}{N:List Str}{ix:List Nat}(sc:Scope)(hsc:X.env.scope=sc)(C:CompSc sc X.N scope k N ix)
  (hx:X.xe=fun _ _=>False) (hc:X.calm=true) (hi:PIr X O tg iter fi)
  (hg:∀ cl C s3 H3 fp pins,PGv (cxComp X N scope cl C s3 H3 fp pins) O0 tg S) (ht:∀ cl C s3 H3 fp pins,PIfv (cxComp X N scope cl C s3 H3 fp pins) ifs ft) (he:∀ cl C s3 H3 fp pins,PR (cxComp X N scope cl C s3 H3 fp pins) O0 elt fe)
  (hs:∀ x,foldedSetIterable iter X.env x=pure x:=by intro _;rfl) :
  PFr X O (.ListComp elt [⟨tg,iter,ifs,0⟩] scope pos) (fun ρ=>compO S ft fe (fi ρ) (frees k ix ρ)):=by
 exact (pe_comp (g:=tG X.K O0 S) (tc:=tT X.K O0 ft) (te:=tR X.K O0 fe) sc hsc C hx hc hi hg ht he hs).imp comp_imp
inductive Out where
 | nx (ρ:Rho) | rt (d:PyData) | bk (ρ:Rho) | ct (ρ:Rho)
def Then (K:PySem.W.Frag)(O:Ow)(hid:Addr->Prop)(H0 G:Hp)(D:Ends):Out->Prop
 | .nx ρ'=>∀ σ' H' ow',Same G (del H' (uni hid ow'))->EnvOk K O hid H0 σ' H' ρ' ow'->D.nx σ' H'
 | .bk ρ'=>∀ σ' H' ow',Same G (del H' (uni hid ow'))->EnvOk K O hid H0 σ' H' ρ' ow'->D.bk σ' H'
 | .ct ρ'=>∀ σ' H' ow',Same G (del H' (uni hid ow'))->EnvOk K O hid H0 σ' H' ρ' ow'->D.ct σ' H'
 | .rt d=>∀ v as H',Same H0 H'->(∀ p∈as,H0 p=none)->DenO K H' (del H' (uni hid as)) O.r v d as->D.rt v H'
def tP (K:PySem.W.Frag)(O:Ow)(F:Rho->Option Out):TS:=fun D σ H=>At5 K O F σ H fun hid H0 ρ ow o=>Then K O hid H0 (del H (uni hid ow)) D o
abbrev PSv (X:Cx)(O:Ow)(st:Stmt)(F:Rho->Option Out):Prop:=PS X st (tP X.K O F)
abbrev PSsv (X:Cx)(O:Ow)(st:List Stmt)(F:Rho->Option Out):Prop:=PSs X st (tP X.K O F)
theorem Then.weak {K:PySem.W.Frag}{O:Ow}{hid:Addr->Prop}{H0 G G':Hp}{D:Ends}{o:Out}(s:Same G G')(h:Then K O hid H0 G D o):Then K O hid H0 G' D o:=by
 cases o with
 | nx ρ=>exact fun σ' H' ow' s' E=>h σ' H' ow' (s.trans s') E
 | bk ρ=>exact fun σ' H' ow' s' E=>h σ' H' ow' (s.trans s') E
 | ct ρ=>exact fun σ' H' ow' s' E=>h σ' H' ow' (s.trans s') E
 | rt d=>exact h
theorem EnvOk.baseS {K:PySem.W.Frag}{O:Ow}{hid:Addr->Prop}{H0 H:Hp}{σ:St}{ρ:Rho}{ow:List Addr}(E:EnvOk K O hid H0 σ H ρ ow):Same H0 H:=E.base.trans (del_same _ _)
def seqF (F G:Rho->Option Out)(ρ:Rho):Option Out:=(F ρ).bind fun o=>match o with
 | .nx ρ'=>G ρ'
 | .rt d=>some (.rt d)
 | .bk ρ'=>some (.bk ρ')
 | .ct ρ'=>some (.ct ρ')
def forD (S:PyData->Rho->Option Rho)(F:Rho->Option Out):List PyData->Rho->Option Out
 | [],ρ=>some (.nx ρ)
 | d::r,ρ=>(S d ρ).bind fun ρ1=>(F ρ1).bind fun o=>match o with
  | .nx ρ2=>forD S F r ρ2
  | .ct ρ2=>forD S F r ρ2
  | .bk ρ2=>some (.nx ρ2)
  | .rt v=>some (.rt v)
def setO (i:Nat)(ρ:Rho)(x:Option PyData):Option Out:=x.map fun d=>.nx (ρ.set i (some d))
def setLO (i:Nat)(ρ:Rho)(x:Option (List PyData)):Option Out:=x.map fun ds=>.nx (ρ.set i (some (.list ds)))
def dropO (ρ:Rho)(x:Option PyData):Option Out:=x.map fun _=>.nx ρ
def asgO (S:PyData->Rho->Option Rho)(ρ:Rho)(x:Option PyData):Option Out:=x.bind fun d=>(S d ρ).map .nx
def forO (S:PyData->Rho->Option Rho)(F:Rho->Option Out)(x:Option (List PyData))(ρ:Rho):Option Out:=x.bind fun ds=>forD S F ds ρ
def whileD (t:Rho->Option Bool)(F:Rho->Option Out):Nat->Rho->Option Out
 | 0,_=>none
 | n+1,ρ=>(t ρ).bind fun c=>if c=true then (F ρ).bind fun o=>match o with
  | .nx ρ2=>whileD t F n ρ2
  | .ct ρ2=>whileD t F n ρ2
  | .bk ρ2=>some (.nx ρ2)
  | .rt v=>some (.rt v) else some (.nx ρ)
section
variable {X:Cx}{O:Ow}{st:Stmt}{rest:List Stmt}{F G:Rho->Option Out}{e:Expr}{f:Rho->Option PyData}{pos:Pos}
theorem ss_nil:PSsv X O [] (fun ρ=>some (.nx ρ)):=pss_nil.imp fun D σ H zpat=>by
 obtain⟨hid,H0,ρ,ow,o,E,hf,k⟩:=zpat
 obtain rfl:=Option.some.inj hf
 exact k σ H ow (Same.refl _) E
theorem ss_cons (h1:PSv X O st F)(h2:PSsv X O rest G):PSsv X O (st::rest) (seqF F G):=(pss_cons h1 h2).imp fun D σ H zpat=>by
 obtain⟨hid,H0,ρ,ow,o,E,hf,k⟩:=zpat
 obtain⟨o1,g1,g2⟩:=bind_some hf
 refine⟨hid,H0,ρ,ow,o1,E,g1,?_⟩
 cases o1 with
 | nx ρ1=>exact fun σ' H' ow' s' E'=>⟨hid,H0,ρ1,ow',o,E',g2,by cases o <;> exact k.weak s'⟩
 | rt d=>cases g2;exact k
 | bk ρ1=>cases g2;exact k
 | ct ρ1=>cases g2;exact k
theorem ss_one (h1:PSv X O st F):PSsv X O [st] F:=pss_one h1
theorem s_expr (h:PR X O e f)(hs:swapsWith e none pos.line X.env=pure false:=by rfl):PSv X O (.Expr e pos) (fun ρ=>dropO ρ (f ρ)):=(ps_expr h hs).imp fun D σ H zpat=>by
 obtain⟨hid,H0,ρ,ow,o,E,hf,k⟩:=zpat
 obtain⟨d,g1,rfl⟩:=map_some hf
 exact⟨hid,H0,ρ,ow,d,E,g1,fun v H' s _=>k σ H' ow (del_mono s _) (E.mono s)⟩
theorem s_ret (h:PR X O e f)(hr:O.r=.cl:=by rfl):PSv X O (.Return (some e) pos) (fun ρ=>(f ρ).map .rt):=(ps_ret h).imp fun D σ H zpat=>by
 obtain⟨hid,H0,ρ,ow,o,E,hf,k⟩:=zpat
 obtain⟨d,g1,rfl⟩:=map_some hf
 exact⟨hid,H0,ρ,ow,d,E,g1,fun v H' s Dv=>k v [] H' (E.baseS.trans s) (fun p hp=>by cases hp) (by rw[hr,uni_nil];exact .cl Dv)⟩
theorem s_retO {U:List Nat}(h:PRt X O U O.r e f):PSv X O (.Return (some e) pos) (fun ρ=>(f ρ).map .rt):=(ps_ret h).imp fun D σ H zpat=>by
 obtain⟨hid,H0,ρ,ow,o,E,hf,k⟩:=zpat
 obtain⟨d,g1,rfl⟩:=map_some hf
 obtain⟨A,EA⟩:=E.own
 refine ⟨hid,H0,ρ,ow,d,A,E,EA,g1,(fun v as H' s n Dv=>k v as H' (E.baseS.trans s) (fun p hp=>?_) (Dv.mono (del_sub (uni_mono fun p hp=>List.mem_append_left _ hp)) fun p _ o e=>e))⟩
 rcases n p hp with z | ⟨i,_,z⟩
 ·exact E.baseS.free z
 ·exact E.ow0 (EA.2.2 i p z)
theorem s_if {c:Expr}{a b:List Stmt}{ft:Rho->Option Bool}(hc:PTv X O c ft)(ha:PSsv X O a F)(hb:PSsv X O b G):PSv X O (.If c a b pos) (fun ρ=>condO (ft ρ) (F ρ) (G ρ)):=(ps_if hc ha hb).imp fun D σ H zpat=>by
 obtain⟨hid,H0,ρ,ow,o,E,hf,k⟩:=zpat
 obtain⟨c,g1,g2⟩:=bind_some hf
 refine⟨hid,H0,ρ,ow,c,E,g1,fun H' s=>?_⟩
 cases c with
 | true=>rw[if_pos rfl] at g2 ⊢;exact⟨hid,H0,ρ,ow,o,E.mono s,g2,k.weak (del_mono s _)⟩
 | false=>rw[if_neg Bool.false_ne_true] at g2 ⊢;exact⟨hid,H0,ρ,ow,o,E.mono s,g2,k.weak (del_mono s _)⟩
theorem s_set {i:Nat}{x:Str}{pos':Pos}(hN:X.N.Nodup)(hi:X.N[i]?=some x)(hx:Loc X.env.scope x)(he:PV X O e f)(hO:O.s.lookup i=none:=by rfl)(hs:swapsWith e (some (.Name x pos')) pos.line X.env=pure false:=by rfl)(hf:X.fn x=true∨X.env.scope.names.lookup x=some .local:=by first | exact .inl rfl | exact .inr rfl | assumption) :
  PSv X O (.Assign [.Name x pos'] e pos) (fun ρ=>setO i ρ (f ρ)):=(ps_set hN hi hx he hs hf).imp fun D σ H zpat=>by
 obtain⟨hid,H0,ρ,ow,o,E,hf,k⟩:=zpat
 obtain⟨d,g1,rfl⟩:=map_some hf
 exact⟨hid,H0,ρ,ow,d,E,g1,fun v H' s Dv=>k _ H' ow (del_mono s _) ((E.mono s).set hO Dv)⟩
theorem s_setT {i:Nat}{x:Str}{pos':Pos}{T:Ty}(hN:X.N.Nodup)(hi:X.N[i]?=some x)(hx:Loc X.env.scope x)(he:PFt X O T e f)(hO:O.s.lookup i=some T:=by rfl)(hs:swapsWith e (some (.Name x pos')) pos.line X.env=pure false:=by rfl)(hf:X.fn x=true∨X.env.scope.names.lookup x=some .local:=by first | exact .inl rfl | exact .inr rfl | assumption) :
  PSv X O (.Assign [.Name x pos'] e pos) (fun ρ=>setO i ρ (f ρ)):=(ps_set hN hi hx he hs hf).imp fun D σ H zpat=>by
 obtain⟨hid,H0,ρ,ow,o,E,hf,k⟩:=zpat
 obtain⟨d,g1,rfl⟩:=map_some hf
 refine⟨hid,H0,ρ,ow,d,E,g1,fun v as H' s n Dv=>k _ H' (as++ow) ?_ (E.setT s hO n Dv)⟩
 intro b u z
 by_cases hb:uni hid ow b
 ·rw[del_in hb] at z;cases z
 ·rw[del_out hb] at z
  rw[del_out fun y=>?_]
  ·exact s b u z
  ·rcases y with y | y
   ·exact hb (.inl y)
   ·rcases List.mem_append.mp y with y | y
    ·rw[n b y] at z;cases z
    ·exact hb (.inr y)
theorem s_setO {i:Nat}{x:Str}{pos':Pos}{f:Rho->Option (List PyData)}(hN:X.N.Nodup)(hi:X.N[i]?=some x)(hx:Loc X.env.scope x)(he:PFc X O e f)(hO:O.s.lookup i=some (.lst .cl):=by rfl)(hs:swapsWith e (some (.Name x pos')) pos.line X.env=pure false:=by rfl)(hf:X.fn x=true∨X.env.scope.names.lookup x=some .local:=by first | exact .inl rfl | exact .inr rfl | assumption) :
  PSv X O (.Assign [.Name x pos'] e pos) (fun ρ=>setLO i ρ (f ρ)):=(s_setT hN hi hx he.ft hO hs hf).imp fun D σ H zpat=>by
 obtain⟨hid,H0,ρ,ow,o,E,hf,k⟩:=zpat
 refine⟨hid,H0,ρ,ow,o,E,?_,k⟩
 obtain⟨d,g1,rfl⟩:=map_some hf
 show setO i ρ ((f ρ).map .list)=_
 rw[g1]
 rfl
theorem s_asg {tg:Expr}{S:PyData->Rho->Option Rho}(he:PV X O e f)(hg:PGv X O tg S)(hs:swapsWithSole [tg] e pos.line X.env=pure false:=by rfl)(hw:swappedStores [tg] e X.env=pure none:=by rfl)(h1:(assignEach [tg] X.env).map (·.2)=[assign tg X.env]:=by rfl) :
  PSv X O (.Assign [tg] e pos) (fun ρ=>asgO S ρ (f ρ)):=(ps_asg he hg hs hw h1).imp fun D σ H zpat=>by
 obtain⟨hid,H0,ρ,ow,o,E,hf,k⟩:=zpat
 obtain⟨d,g1,g2⟩:=bind_some hf
 obtain⟨ρ',g3,rfl⟩:=map_some g2
 exact⟨hid,H0,ρ,ow,d,E,g1,fun v H' s Dv=>⟨hid,H0,ρ,ow,d,ρ',E.mono s,Dv,g3,fun σ' E'=>k σ' H' ow (del_mono s _) E'⟩⟩
inductive FIv (K:PySem.W.Frag)(O:Ow)(hid:Addr->Prop)(H0 G1:Hp)(S:PyData->Rho->Option Rho)(F:Rho->Option Out)(ds:List PyData)(out:Out)(i m:Nat)(τ:St)(H2:Hp):Prop
 | mk (ρ2:Rho) (ow2:List Addr) (left:List PyData) (hM:Mid ds i m left) (E2:EnvOk K O hid H0 τ H2 ρ2 ow2) (s2:Same G1 (del H2 (uni hid ow2))) (hr:forD S F left ρ2=some out):FIv K O hid H0 G1 S F ds out i m τ H2
theorem s_for {tg iter:Expr}{body:List Stmt}{fi:Rho->Option (List PyData)}{S:PyData->Rho->Option Rho}(hc:X.calm=true)(hi:PIv X O tg iter fi)(hg:PGv X O tg S)(hb:PSsv X O body F)(hp:PassesOwn (model X.prog X.w) X.A X.env X.xe)
  (hs:∀ x,foldedSetIterable iter X.env x=pure x:=by intro _;rfl):PSv X O (.For tg iter body [] pos) (fun ρ=>forO S F (fi ρ) ρ):=(ps_for hp hc hi hg hb hs).imp fun D σ H zpat=>by
 obtain⟨hid,H0,ρ,ow,out,E,hf,k⟩:=zpat
 obtain⟨ds,g1,g2⟩:=bind_some hf
 refine⟨hid,H0,ρ,ow,ds,E,g1,fun J H1 s1 Gd=>?_⟩
 have k1:=k.weak (del_mono s1 (uni hid ow))
 clear k hf g1
 refine⟨FIv X.K O hid H0 (del H1 (uni hid ow)) S F ds out,⟨ds.length,.mk ρ ow ds (.start ds) (E.mono s1) (Same.refl _) g2⟩,fun i m τ H2 zp=>?_⟩
 obtain⟨ρ2,ow2,left,hM,E2,s2,hr⟩:=zp
 have keep:Same (del H1 (uni hid ow)) H2:=s2.trans (del_same _ _)
 cases left with
 | nil=>
  obtain rfl:=hM.fin
  rw[forD] at hr
  obtain rfl:=Option.some.inj hr
  exact .inl ⟨Gd.stop H2 keep,k1 τ H2 ow2 s2 E2⟩
 | cons d r=>
  obtain⟨hlt,hdi,m',hm',hM'⟩:=hM.cut
  rw[forD] at hr
  obtain⟨ρ3,g3,hr⟩:=bind_some hr
  obtain⟨o3,g4,hr⟩:=bind_some hr
  refine .inr ⟨Gd.go H2 i keep hlt,FIv X.K O hid H0 (del H1 (uni hid ow)) S F ds out (i+1) m',fun τ' H' z=>⟨m',hm',z⟩,fun x H3 y=>?_⟩
  obtain⟨s23,Dx⟩:=Gd.step s2 (fun p hp=>E2.fresh hp) hdi y
  refine⟨hid,H0,ρ2,ow2,d,ρ3,E2.mono s23,Dx,g3,fun τ3 E3=>⟨hid,H0,ρ3,ow2,o3,E3,g4,?_⟩⟩
  have s13:Same (del H1 (uni hid ow)) (del H3 (uni hid ow2)):=s2.trans (del_mono s23 _)
  cases o3 with
  | nx ρ4=>exact fun σ' H' ow' s' E'=>.mk ρ4 ow' r hM' E' (s13.trans s') hr
  | ct ρ4=>exact fun σ' H' ow' s' E'=>.mk ρ4 ow' r hM' E' (s13.trans s') hr
  | bk ρ4=>
   obtain rfl:=Option.some.inj hr
   exact fun σ' H' ow' s' E'=>k1 σ' H' ow' (s13.trans s') E'
  | rt d=>
   obtain rfl:=Option.some.inj hr
   exact k1
theorem s_while {c:Expr}{body:List Stmt}{ft:Rho->Option Bool}(μ:Rho->Nat)(hc:PTv X O c ft)(hb:PSsv X O body F)(hp:PassesOwn (model X.prog X.w) X.A X.env X.xe):PSv X O (.While c body [] pos) (fun ρ=>whileD ft F (μ ρ) ρ):=(ps_while hp hc hb).imp fun D σ H zpat=>by
 obtain⟨hid,H0,ρ,ow,out,E,hf,k⟩:=zpat
 refine⟨fun m τ H2=>∃ ρ2 ow2,EnvOk X.K O hid H0 τ H2 ρ2 ow2∧Same (del H (uni hid ow)) (del H2 (uni hid ow2))∧whileD ft F m ρ2=some out,⟨_,ρ,ow,E,Same.refl _,hf⟩,?_⟩
 rintro m τ H2 ⟨ρ2,ow2,E2,s2,hr⟩
 cases m with
 | zero=>exact L2.no_ns hr
 | succ m=>
  rw[whileD] at hr
  obtain⟨b,g1,hr⟩:=bind_some hr
  refine⟨hid,H0,ρ2,ow2,b,E2,g1,fun H3 s3=>?_⟩
  have s13:Same (del H (uni hid ow)) (del H3 (uni hid ow2)):=s2.trans (del_mono s3 _)
  cases b with
  | false=>
   dsimp only
   rw[if_neg Bool.false_ne_true] at hr ⊢
   obtain rfl:=Option.some.inj hr
   exact k τ H3 ow2 s13 (E2.mono s3)
  | true=>
   dsimp only
   rw[if_pos rfl] at hr ⊢
   obtain⟨o3,g4,hr⟩:=bind_some hr
   refine⟨fun τ' H'=>∃ ρ2 ow2,EnvOk X.K O hid H0 τ' H' ρ2 ow2∧Same (del H (uni hid ow)) (del H' (uni hid ow2))∧whileD ft F m ρ2=some out,fun τ' H' z=>⟨m,Nat.lt_succ_self m,z⟩,hid,H0,ρ2,ow2,o3,E2.mono s3,g4,?_⟩
   cases o3 with
   | nx ρ4=>exact fun σ' H' ow' s' E'=>⟨ρ4,ow',E',s13.trans s',hr⟩
   | ct ρ4=>exact fun σ' H' ow' s' E'=>⟨ρ4,ow',E',s13.trans s',hr⟩
   | bk ρ4=>
    obtain rfl:=Option.some.inj hr
    exact fun σ' H' ow' s' E'=>k σ' H' ow' (s13.trans s') E'
   | rt d=>
    obtain rfl:=Option.some.inj hr
    exact k
def tAt (K:PySem.W.Frag)(O:Ow)(i:Nat)(T:Ty)(fp:Rho->Option (List Int)):TE:=fun σ H Q=>∃ hid H0 ρ ow d path ds,EnvOk K O hid H0 σ H ρ ow∧ρ[i]?=some (some d)∧fp ρ=some path∧tyP T d path=true∧getP d path=some ds ∧
 ∀ H1 l vs,Same H H1->H1 l=some (.lst vs)->DenL K (del H1 (uni hid ow)) vs ds->l∈ow ->
  (∀ H2,Same H1 H2->∀ ws es,DenL K (del H2 (uni hid ow)) ws es->EnvOk K O hid H0 σ (upd H2 l (.lst ws)) (ρ.set i (some (setP d path es))) ow)->Q (.ref l) H1
abbrev PAt (X:Cx)(O:Ow)(i:Nat)(T:Ty)(e:Expr)(fp:Rho->Option (List Int)):Prop:=PE X e (tAt X.K O i T fp)
theorem at_name {i:Nat}(h:PE X e (tVar i))(hi:O.s.lookup i=some (.lst .cl):=by rfl):PAt X O i (.lst .cl) e (fun _=>some []):=h.imp fun σ H Q zpat=>by
 obtain⟨hid,H0,ρ,ow,d,path,ds,E,hρ,hp,ht,hg,k⟩:=zpat
 obtain rfl:=Option.some.inj hp
 obtain rfl:=getP_nil hg
 obtain⟨l,vs,h1,h3,h4,h5,h6⟩:=E.at0 hi hρ
 exact⟨.ref l,h1,k H l vs (Same.refl H) h3 h4 h5 h6⟩
def appP (i:Nat)(T:Ty)(ρ:Rho)(path:Option (List Int))(d:PyData):Option Out:=path.bind fun p=>((ρ[i]?).join).bind fun t=>if tyP T t p=true then (getP t p).bind fun ds=>if decide (ds.length<1000)=true then some (.nx (ρ.set i (some (setP t p (ds++[d]))))) else none else none
theorem s_appendP {i:Nat}{T:Ty}{x:Expr}{fp:Rho->Option (List Int)}{apos cpos:Pos}(hx:PAt X O i T x fp)(he:PV X O e f)
  (hbase:attributeBase x "append" X.env (eval x X.env)=eval x X.env:=by rfl)
  (hfew:((backTo cpos (starEach [e] X.env)).all (fun x=>!x.1)&&(backToKw cpos (keywordEach [] X.env)).all (fun x=>x.1.isSome)&&decide ([e].length+([]:List Keyword).length+(if ([]:List Keyword).isEmpty then 0 else 1)<30))=true:=by rfl)
  (hline:(apos.endLine==cpos.line)=true:=by rfl) (hst:starEach [e] X.env=(false,eval e X.env)::starEach [] X.env:=by rfl) (hplain:(backTo cpos (starEach [] X.env)).any (·.1)=false:=by rfl)
  (hs:swapsWith (.Call (.Attribute x "append" apos) [e] [] cpos) none pos.line X.env=pure false:=by rfl) :
  PSv X O (.Expr (.Call (.Attribute x "append" apos) [e] [] cpos) pos) (fun ρ=>(f ρ).bind (appP i T ρ (fp ρ))):=
 (ps_expr (pe_bm PySem.F.plainAttrs_list PySem.F.slot_list_append PySem.F.type_list_append mt_append hx (pa_cons he pa_nil hst) hbase hfew hline hst hplain) hs).imp fun D σ H zpat=>by
  obtain⟨hid,H0,ρ,ow,o,E,hf,k⟩:=zpat
  obtain⟨d,g1,g2⟩:=bind_some hf
  obtain⟨path,g3,g4⟩:=bind_some g2
  obtain⟨t,g5,g6⟩:=bind_some g4
  split at g6
  case isFalse=>cases g6
  rename_i hty
  obtain⟨ds,g7,g8⟩:=bind_some g6
  split at g8
  case isFalse=>cases g8
  rename_i hlt
  obtain rfl:=Option.some.inj g8
  refine ⟨hid,H0,ρ,ow,t,path,ds,E,join_some g5,g3,hty,g7,(fun H1 l vs s1 hH hD hl hE=>⟨.inl ⟨rfl,vs,SqL.of hH⟩,hid,H0,ρ,ow,d,E.mono s1,g1,fun v H2 s2 Dv=>?_⟩)⟩
  have hz:1000<sizeLine:=by decide
  have hlt':=of_decide_eq_true hlt
  refine ⟨l,vs,v,rfl,rfl,s2 _ _ hH,(by rw[hD.length];omega),k _ _ ow ?_ (hE H2 s2 _ _ ((hD.mono (del_mono s2 _)).append (.cons Dv .nil)))⟩
  rw[del_upd (uni_in hl)]
  exact (del_mono s1 _).trans (del_mono s2 _)
def appD (i:Nat)(ρ:Rho)(d:PyData):Option Out:=((ρ[i]?).join.bind listD).bind fun ds=>if decide (ds.length<1000)=true then some (.nx (ρ.set i (some (.list (ds++[d]))))) else none
theorem s_append {i:Nat}{x:Str}{p apos cpos:Pos}(hx:PE X (.Name x p) (tVar i))(he:PV X O e f)(hO:O.s.lookup i=some (.lst .cl):=by rfl)
  (hbase:attributeBase (.Name x p) "append" X.env (eval (.Name x p) X.env)=eval (.Name x p) X.env:=by rfl)
  (hfew:((backTo cpos (starEach [e] X.env)).all (fun x=>!x.1)&&(backToKw cpos (keywordEach [] X.env)).all (fun x=>x.1.isSome)&&decide ([e].length+([]:List Keyword).length+(if ([]:List Keyword).isEmpty then 0 else 1)<30))=true:=by rfl)
  (hline:(apos.endLine==cpos.line)=true:=by rfl) (hst:starEach [e] X.env=(false,eval e X.env)::starEach [] X.env:=by rfl) (hplain:(backTo cpos (starEach [] X.env)).any (·.1)=false:=by rfl)
  (hs:swapsWith (.Call (.Attribute (.Name x p) "append" apos) [e] [] cpos) none pos.line X.env=pure false:=by rfl) :
  PSv X O (.Expr (.Call (.Attribute (.Name x p) "append" apos) [e] [] cpos) pos) (fun ρ=>(f ρ).bind (appD i ρ)):=
 (s_appendP (at_name hx hO) he hbase hfew hline hst hplain hs).imp fun D σ H zpat=>by
  obtain⟨hid,H0,ρ,ow,o,E,hf,k⟩:=zpat
  refine⟨hid,H0,ρ,ow,o,E,?_,k⟩
  obtain⟨d,g1,g2⟩:=bind_some hf
  obtain⟨ds,g3,g4⟩:=bind_some g2
  obtain⟨dl,g5,g6⟩:=bind_some g3
  rw[listD_some g6] at g5
  try dsimp only
  rw[g1,Option.bind_some]
  unfold appP
  rw[Option.bind_some,g5,Option.bind_some]
  exact g4
end
theorem lookTy_mem:∀ {l:List (Nat×Ty)} {i:Nat} {t:Ty},l.lookup i=some t->i∈l.map (·.1)
 | [],_,_,h=>by cases h
 | (j,u)::r,i,t,h=>by
  rw[List.lookup_cons] at h
  by_cases hj:(i==j)=true
  ·rw[beq_iff_eq] at hj;subst hj;exact List.mem_cons_self
  ·rw[Bool.not_eq_true] at hj
   rw[hj] at h
   exact List.mem_cons_of_mem _ (lookTy_mem h)
def CdOk (K:PySem.W.Frag)(f:Addr)(cdv:Value):Prop:=∃ oc od fd osl,K.lookup f=some ⟨oc,od,.func fd,osl⟩∧fd.code=cdv
theorem fn_okC {P:Program}{w:World}{K:PySem.W.Frag}{mg:Str->Option Value}{base:Heap}{x qual:Str}{st:Stmt}{f:Addr}{fd:FuncData}{N ps:List Str}{k:Nat}{sp:Sp}(F:Fun K x qual st f fd)(S:FnScope N ps (defScope st))(len:∀ vs H Q E,sp vs H Q E->vs.length=ps.length)
  (body:∀ cdv,CdOk K f cdv->∀ A outer s H vs Q E,Room k (A.deeper (envOfC qual (defScope st) s.heap.objs.size f cdv))->sp vs H Q E->∃ t,PSs (cxOf CX0 P w K mg base N qual (defScope st) f cdv A outer s H E).nox (defBody st) t∧t { nx:=fun _ H'=>Q .non H',rt:=Q } (start N vs) H):FnOk P w K mg base CX0 (k+1) f fd ps sp:=by
 obtain⟨a1,a2,a3,a4,a5,a6,cdv,a7,a8,e,lk,hc⟩:=F.ex
 subst e
 exact fn_of lk hc S len fun A outer s H vs Q E hr hs=>by
  obtain⟨t,h1,h2⟩:=body cdv ⟨_,_,_,_,lk,rfl⟩ A outer s H vs Q E hr hs
  exact⟨t,h1.nox,h2⟩
theorem start_get {K:PySem.W.Frag}{H:Hp}{hid:Addr->Prop}{N:List Str}{vs:List V}{ds:List PyData}(D:DenL K (del H hid) vs ds){i:Nat}{d:PyData}(e:(ds.map some++List.replicate (N.length - ds.length) none)[i]?=some (some d)):i<ds.length∧∃ v,(start N vs)[i]?=some (some v)∧Den K (del H hid) v d:=by
 by_cases hi:i<ds.length
 ·rw[List.getElem?_append_left (by rw[List.length_map];exact hi),List.getElem?_map] at e
  obtain⟨d',q,e⟩:=Option.map_eq_some_iff.mp e
  obtain rfl:=Option.some.inj e
  obtain⟨v,h1,h2⟩:=D.get q
  refine⟨hi,v,?_,h2⟩
  unfold start
  rw[List.getElem?_append_left (by rw[List.length_map,D.length];exact hi),List.getElem?_map,h1]
  rfl
 ·rw[List.getElem?_append_right (by rw[List.length_map];exact Nat.le_of_not_lt hi),List.getElem?_replicate] at e
  split at e <;> cases e
theorem start_env {K:PySem.W.Frag}{O:Ow}{H:Hp}{hid:Addr->Prop}{N:List Str}{vs:List V}{ds:List PyData}{n:Nat}(D:DenL K (del H hid) vs ds)(hn:ds.length=n)(hO:∀ i∈O.s.map (·.1),n≤i)(hh:∀ b,hid b->∃ vs:OwO,H b=some vs.ho):EnvOk K O hid H (start N vs) H (ds.map some++List.replicate (N.length - ds.length) none) []:=by
 refine⟨by unfold start;rw[List.length_append,List.length_append,List.length_map,List.length_map,List.length_replicate,List.length_replicate,D.length],fun b o e=>by rw[del_out List.not_mem_nil];exact e,fun i d hi e=>?_,⟨fun _=>[],fun i t d hi e=>?_,fun i j p _ z=>absurd z List.not_mem_nil,fun i p z=>absurd z List.not_mem_nil⟩,fun l z=>absurd z List.not_mem_nil,hh,fun _=>rfl⟩
 ·obtain⟨_,v,h1,h2⟩:=start_get D e
  exact⟨v,h1,by rw[uni_nil];exact h2⟩
 ·exact absurd (hn▸(start_get D e).1) (Nat.not_lt.mpr (hO i (lookTy_mem hi)))
theorem fn_pure {P:Program}{w:World}{K:PySem.W.Frag}{mg:Str->Option Value}{base:Heap}{x qual:Str}{st:Stmt}{f:Addr}{fd:FuncData}{N ps:List Str}{k:Nat}{Fs:List PyData->Option PyData}(O:Ow)(F:Fun K x qual st f fd)(S:FnScope N ps (defScope st))
  (hl:∀ ds r,Fs ds=some r->ds.length=ps.length)
  (hO:∀ i∈O.s.map (·.1),ps.length≤i) (B:Rho->Option Out)
  (hbody:∀ (cdv:Value),CdOk K f cdv->∀ (A:Around) (outer:List Env) (s:Shared) (H:Hp) (E:XK),Room k (A.deeper (envOfC qual (defScope st) s.heap.objs.size f cdv)) ->
   PSsv (cxOf CX0 P w K mg base N qual (defScope st) f cdv A outer s H E).nox O (defBody st) B)
  (hs:∀ ds r,Fs ds=some r->B (ds.map some++List.replicate (N.length - ds.length) none)=some (.rt r)∨(r=.none∧∃ ρ,B (ds.map some++List.replicate (N.length - ds.length) none)=some (.nx ρ))) :
  FnOk P w K mg base CX0 (k+1) f fd ps (spR K O.r Fs):=by
 refine fn_okC F S (fun vs H Q E h=>?_) (fun cdv hk A outer s H vs Q E hr h=>?_)
 ·obtain⟨hid,ds,r,_,D,hf,_⟩:=id (h)
  rw[D.length]
  exact hl ds r hf
 ·obtain⟨hid,ds,r,hh,D,hf,q⟩:=id (h)
  refine⟨_,hbody cdv hk A outer s H E hr,?_⟩
  have hdl:=D.length
  have hpl:=hl ds r hf
  have E0:EnvOk K O hid H (start N vs) H (ds.map some++List.replicate (N.length - ds.length) none) []:=start_env D hpl hO hh
  rcases hs ds r hf with h | ⟨rfl,ρ,h⟩
  ·exact⟨hid,H,_,[],_,E0,h,fun v as H' s' n Dv=>q v as H' s' n Dv⟩
  ·exact⟨hid,H,_,[],_,E0,h,fun σ' H' ow' s' E'=>q .non [] H' E'.baseS (fun p hp=>by cases hp) .non⟩
end L2
namespace L2
variable [Reg]
def tyD:PyData->String
 | .none=>"NoneType"
 | .bool _=>"bool"
 | .int _=>"int"
 | .str _=>"str"
 | .list _=>"list"
 | .tuple _=>"tuple"
 | .dict _=>"dict"
def subT (t T:String):Bool:=t==T||(t=="bool"&&T=="int")
theorem kit_bi (K:PySem.W.Frag):∀ t∈["NoneType","bool","int","str","list","tuple"],∀ T∈["bool","int","str","list","tuple"],PySem.W.kitOne K (.type t) (.type T)=some (subT t T):=by
 intro t ht T hT
 simp only[List.mem_cons,List.not_mem_nil,or_false] at ht hT
 rcases ht with rfl | rfl | rfl | rfl | rfl | rfl <;> rcases hT with rfl | rfl | rfl | rfl | rfl <;> rfl
def isD (T:String):PyData->Option PyData
 | .dict _=>none
 | d=>some (.bool (subT (tyD d) T))
theorem isD_some {T:String}{d r:PyData}(h:isD T d=some r):r=.bool (subT (tyD d) T):=by
 cases d <;> first | (cases h;rfl) | cases h
def rIsi (K:PySem.W.Frag)(T:String):List V->Hp->VK->Prop:=fun xs H Q=>∃ x d,xs=[x,.ty T]∧Den K H x d∧isD T d≠none∧Q (.bl (subT (tyD d) T)) H
theorem call_isi {X:Cx}{T:String}(hT:T∈["bool","int","str","list","tuple"]):CallR X (.builtin "isinstance") (rIsi X.K T):=by
 intro pins s σ H xs us Q I r h
 revert h
 refine fun zqq=>?_;obtain⟨x,d,zq2,D,hnd,q⟩:=zqq
 subst zq2
 obtain⟨u,c,zq2,rx,rc⟩:=r.two
 subst zq2
 cases (show c=Value.type T from rc)
 have fin:∀ tk,EP X pins σ Q (.bool (subT (tyD d) T)) { s with toks:=tk }:=fun tk=>⟨.bl _,H,I.tok tk,rfl,q⟩
 cases D with
 | non=>cases (show u=Value.none from rx);exact PySem.W.kia_one PySem.W.kitx_none I.kIn True.intro (kit_bi X.K "NoneType" (by simp) T hT) (fun z=>nomatch z) fin
 | bl b=>cases (show u=Value.bool b from rx);exact PySem.W.kia_one PySem.W.kitx_bool I.kIn True.intro (kit_bi X.K "bool" (by simp) T hT) (fun z=>nomatch z) fin
 | int i=>obtain⟨t,q⟩:=(show ∃ t,u=Value.int i t from rx);cases q;exact PySem.W.kia_one PySem.W.kitx_int I.kIn True.intro (kit_bi X.K "int" (by simp) T hT) (fun z=>nomatch z) fin
 | str y=>obtain⟨t,q⟩:=(show ∃ t,u=Value.str y t from rx);cases q;exact PySem.W.kia_one PySem.W.kitx_str I.kIn True.intro (kit_bi X.K "str" (by simp) T hT) (fun z=>nomatch z) fin
 | @lst a vs ds hq hr=>
  cases (show u=Value.ref a from rx)
  obtain⟨its,_,⟨o,n,e,c,_⟩,_⟩:=I.list hq
  exact PySem.W.kia_one PySem.W.kitx_list I.kIn ⟨o,e,c⟩ (kit_bi X.K "list" (by simp) T hT) (fun z=>nomatch z) fin
 | fn _ _=>exact absurd rfl hnd
 | exc _ _=>exact absurd rfl hnd
 | obj _ _=>exact absurd rfl hnd
 | dct _ _=>exact absurd rfl hnd
 | @tup a vs ds hq hr=>
  cases (show u=Value.ref a from rx)
  obtain⟨its,_,⟨o,e,c,_⟩,_⟩:=I.tuple hq
  exact PySem.W.kia_one PySem.W.kitx_tuple I.kIn ⟨o,e,c⟩ (kit_bi X.K "tuple" (by simp) T hT) (fun z=>nomatch z) fin
theorem v_isi {X:Cx}{O:Ow}{e:Expr}{f:Rho->Option PyData}{p p2 pos:Pos}{T:Str}(Ts:String)(he:PR X O e f)(hT:Ts∈["bool","int","str","list","tuple"])(hg:Gl X "isinstance")(hm:X.mg "isinstance"=none)(hgT:Gl X T)(hmT:X.mg T=none)(hvT:bootBuiltins T=some (.type Ts))
  (hn:T≠"__name__":=by decide) (hd:(T==("__debug__":Str))=false:=by decide) (h1:starEach [e,.Name T p2] X.env=(false,eval e X.env)::starEach [.Name T p2] X.env:=by rfl) (h2:starEach [.Name T p2] X.env=(false,eval (.Name T p2) X.env)::starEach [] X.env:=by rfl)
  (hpl:(backTo pos (starEach [.Name T p2] X.env)).any (·.1)=false:=by rfl):PV X O (.Call (.Name "isinstance" p) [e,.Name T p2] [] pos) (fun ρ=>(f ρ).bind (isD Ts)):=
 (pe_callB (call_isi hT) hg hm PyProof.Rows.boot_isinstance (pa_cons he (pa_cons (pe_bltn (v:=.ty Ts) hgT hmT hvT rfl hn hd) pa_nil h2) h1) (by decide) (by decide) h1 hpl).imp fun σ H Q zpat=>by
  obtain⟨hid,H0,ρ,ow,r,E,hf,k⟩:=zpat
  obtain⟨d,g1,g2⟩:=bind_some hf
  refine⟨hid,H0,ρ,ow,d,E,g1,fun v H' s D=>⟨v,d,rfl,D.mono (del_same _ _),(fun z=>by rw[z] at g2;cases g2),?_⟩⟩
  have:=isD_some g2
  subst this
  exact k _ H' s (.bl _)
def Ite (K:PySem.W.Frag)(a:Addr):It:=
 ⟨fun i H=>∃ xs x,SqL K H a xs∧xs[i]?=some x,fun i H x H'=>∃ p v,H p=none∧H'=upd H p (.tup [.int i,v])∧x=.ref p∧∀ xs,SqL K H a xs->xs[i]?=some v,fun i H=>∃ xs,SqL K H a xs∧xs.length≤i⟩
theorem turn_enum {P:Program}{w:World}{K:PySem.W.Frag}{es:List Expr}{x1}{tpos:Pos}(a e it:Addr)(hne:e≠it):Turn P w K (.Tuple es x1 tpos) (Ite K a) [e,it] e (fun i h=>(∃ old,IsEnum h e it ((i:Nat):Int) old)∧h.IsListIter it a i) where
 mem:=by simp
 obj:=fun i h st b hb=>by
  obtain⟨⟨old,h1⟩,o,e2,c,d⟩:=st
  rcases List.mem_cons.mp hb with rfl | hb
  ·exact⟨_,h1,fun v z=>by cases (show Data.fields _=Data.cell v from z)⟩
  ·have:b=it:=by simpa using hb
   subst this
   exact⟨o,e2,fun v z=>by rw[d] at z;cases z⟩
 keep:=fun i h h' st k=>by
  obtain⟨⟨old,h1⟩,h2⟩:=st
  exact⟨⟨old,k e (by simp) _ h1⟩,h2.at fun o q=>k it (by simp) o q⟩
 item:=by
  intro X hP hw hK hc i pins s σ H E I hf st hg
  subst hP hw hK
  obtain⟨xs,x,hq,hx⟩:=id (hg)
  obtain⟨its,rv,p,hz⟩:=I.list hq
  obtain⟨u,hu,ru⟩:=rv.get hx
  obtain⟨⟨old,h1⟩,h2⟩:=st
  obtain⟨f0,f1,f2,f3,f4,f5⟩:=hf e (by simp)
  obtain⟨g0,g1,g2,g3,g4,g5⟩:=hf it (by simp)
  have he:e<s.heap.objs.size:=Heap.lt_size h1
  have hi:it<s.heap.objs.size:=by obtain⟨o,q,_⟩:=id h2;exact Heap.lt_size q
  refine wpAny_pyNext_enum_item h1 h2 p.isList (x:=u) (by simpa using hu) hne fun h' ho hit' hT hsz hk=>?_
  refine⟨_,rfl,wpAny_letOwnedTupleGo_enum (s:={ s with heap:=h',toks:=s.toks+1 }) ho fun h3 he3 hs3=>?_⟩
  have hs3':Heap.SameBut e h' h3:=hs3
  have hT3:h3.get? s.heap.objs.size=some { cls:=.type "tuple",data:=.seq #[.int i s.toks,u] }:=(hs3'.2 _ (Nat.ne_of_gt he)).trans hT
  have hk3:∀ b o,b∉[e,it]->s.heap.get? b=some o->h3.get? b=some o:=fun b o hb q=>(hs3'.2 b (fun z=>hb (by simp[z]))).trans (hk b o (fun z=>hb (by simp[z])) (fun z=>hb (by simp[z])) q)
  have hfr:H s.heap.objs.size=none:=I.hok.fresh (Nat.le_refl _)
  have nin:∀ b o,H b=some o->b∉[e,it]:=fun b o q hb=>by
   rcases List.mem_cons.mp hb with z | hb
   ·rw[z,f0] at q;cases q
   ·have z:b=it:=by simpa using hb
    rw[z,g0] at q;cases q
  have I3:Inv X pins σ (upd H s.heap.objs.size (.tup [.int i,x])) { s with heap:=h3,toks:=s.toks+1 }:=by
   refine I.step (g':=s.gens) (d':=s.drawn) (ch:=[e,it]) (fun b hb=>?_) (fun b o _ _ hb q _=>hk3 b o hb q) (fun b o _ _ hb q _=>⟨o.slots,hk3 b o hb q⟩) (fun b o hb q n=>?_) (fun b o hb q=>⟨o,hk3 b o hb q⟩)
    (fun b ys q=>by rw[upd_ne (ne_of_none q hfr)];exact q) (fun b o ys q=>by rw[upd_ne (ne_of_none q hfr)];exact q) (fun b ps q=>⟨#[],by rw[upd_ne (ne_of_none q hfr),q];simp⟩) (fun b q=>by rw[upd_ne (ne_of_none q hfr)];exact q) (fun m hm=>?_) (fun b o q=>?_) I.bare
   ·rcases List.mem_cons.mp hb with rfl | hb
    ·exact⟨f3,f1,f4,f5⟩
    ·have z:b=it:=by simpa using hb
     subst z
     exact⟨g3,g1,g4,g5⟩
   ·rw[upd_ne (Nat.ne_of_lt (Heap.lt_size q))]
    exact n
   ·obtain⟨o,es',ep,ho',r⟩:=id (hm)
    exact ⟨o,es',ep,(hk3 _ o (by simp[Ne.symm f1,Ne.symm g1]) ho'),r⟩
   ·by_cases hb:b=s.heap.objs.size
    ·subst hb
     rw[upd_same] at q
     obtain rfl:=Option.some.inj q
     exact⟨(by show 2≤sizeLine;decide),[.int i s.toks,u],.cons ⟨_,rfl⟩ (.cons ru .nil),⟨_,hT3,rfl,_,rfl⟩⟩
    ·rw[upd_ne hb] at q
     refine (I.hok b o q).stay (fun c v hc q'=>hk3 c v ?_ q') (fun c q'=>by rw[upd_ne (ne_of_none q' hfr)];exact q') (fun c ys q'=>by rw[upd_ne (ne_of_none q' hfr)];exact q') fun c ob ys _ _ q'=>by rw[upd_ne (ne_of_none q' hfr)];exact q'
     rcases hc with hc | hc
     ·rw[hc];exact nin b o q
     ·exact nin c _ hc
  refine ⟨.ref s.heap.objs.size,_,I3,rfl,(⟨_,x,hfr,rfl,rfl,fun ys hy=>by rw[I.list_inj hy hq];exact hx⟩),(⟨⟨u,?_⟩,hit'.at fun o q=>(hs3'.2 it (Ne.symm hne)).trans q⟩),(fun b hb=>?_)⟩
  ·have:((i+1:Nat):Int)=(i:Int)+1:=by push_cast;rfl
   rw[this]
   exact he3
  ·rcases List.mem_cons.mp hb with rfl | hb
   ·rw[upd_ne (Nat.ne_of_lt he)];exact f0
   ·have z:b=it:=by simpa using hb
    subst z
    rw[upd_ne (Nat.ne_of_lt hi)];exact g0
 done:=by
  intro X hP hw hK hc i pins s σ H E I hf st hg
  subst hP hw hK
  obtain⟨xs,hq,hx⟩:=id (hg)
  obtain⟨its,rv,p,hz⟩:=I.list hq
  obtain⟨⟨old,h1⟩,h2⟩:=st
  obtain⟨g0,g1,g2,g3,g4,g5⟩:=hf it (by simp)
  have hl:=rv.length
  exact wpAny_pyNext_enum_end (I.ok.hd hc) h1 h2 p.isList (by simp;omega) fun h' eb=>⟨rfl,I.turned (t':=s.toks) (fun b o hb q=>eb b o hb q) g0 g1 g3 g4 g5⟩
 self:=fun _ _ _ _ _ st h=>wpAny_pyIter_enum st.1.choose_spec h
def iEnum (K:PySem.W.Frag)(tl:TE):TI:=fun σ H R=>tl σ H fun x H1=>∃ a,x=.ref a∧(∃ xs,SqL K H1 a xs)∧R (Ite K a) H1
theorem pi_enum {X:Cx}{es:List Expr}{x1}{tpos p pos:Pos}{l:Expr}{tl:TE}(hg:Gl X "enumerate")(hm:X.mg "enumerate"=none)(hl:PE X l tl)(hs:starEach [l] X.env=[(false,eval l X.env)]:=by rfl) :
  PI X (.Tuple es x1 tpos) (.Call (.Name "enumerate" p) [l] [] pos) (iEnum X.K tl):=by
 intro pins s σ H R I h
 have ha:=pa_cons (X:=X) hl pa_nil hs
 refine Call_ (ld_blt I hg hm PyProof.Rows.boot_enumerate (PyProof.Rows.callWith_type1 (thn (ha pos pins s σ H (fun vs H1=>∃ a,vs=[.ref a]∧(∃ xs,SqL X.K H1 a xs)∧R (Ite X.K a) H1) I ?_) fun us s1 ⟨vs,H1,I1,r1,q1⟩=>?_) hs rfl))
 ·have mono:∀ (Q Q':VK),True:=fun _ _=>True.intro
  show tl σ H fun x H1=>∃ a,[x]=[.ref a]∧(∃ xs,SqL X.K H1 a xs)∧R (Ite X.K a) H1
  have e:(fun (x:V) (H1:Hp)=>∃ a,[x]=[V.ref a]∧(∃ xs,SqL X.K H1 a xs)∧R (Ite X.K a) H1)=fun x H1=>∃ a,x=.ref a∧(∃ xs,SqL X.K H1 a xs)∧R (Ite X.K a) H1:=by
   funext x H1
   simp
  rw[e]
  exact h
 ·obtain⟨a,rfl,⟨xs,hq⟩,q⟩:=q1
  obtain⟨u,zq1,ru⟩:=r1.one
  subst zq1
  cases ru
  obtain⟨its,rv,pl,hz⟩:=I1.list hq
  refine call_enumerate_list pl.isList fun h' he hit hsz hk=>?_
  refine wpAny_pyIter_enum he ?_
  have I2:Inv X pins σ H1 { s1 with heap:=h' }:=I1.kept (t':=s1.toks) hk
  refine ⟨s1.heap.objs.size+1,([s1.heap.objs.size+1,s1.heap.objs.size]),_,_,H1,rfl,I2,turn_enum a _ _ (Nat.succ_ne_self _),(⟨⟨_,he⟩,hit⟩),(fun b hb=>?_),q⟩
  have hb':s1.heap.objs.size≤b:=by
   rcases List.mem_cons.mp hb with rfl | hb
   ·exact Nat.le_succ _
   ·have:b=s1.heap.objs.size:=by simpa using hb
    rw[this]
    exact Nat.le_refl _
  exact I1.fpOk hb' (I1.hok.fresh hb')
def enumL (ds:List PyData):List PyData:=(List.range ds.length).zipWith (fun i d=>.tuple [.int (i:Nat),d]) ds
theorem enumL_get {ds:List PyData}{i:Nat}{d:PyData}(h:(enumL ds)[i]?=some d):∃ e,ds[i]?=some e∧d=.tuple [.int (i:Nat),e]:=by
 unfold enumL at h
 rw[List.getElem?_zipWith] at h
 cases q:ds[i]? with
 | none=>rw[q] at h;cases z:(List.range ds.length)[i]? <;> rw[z] at h <;> cases h
 | some e=>
  have hl:=(List.getElem?_eq_some_iff.mp q).1
  rw[q,List.getElem?_range hl] at h
  exact⟨e,rfl,(Option.some.inj h).symm⟩
theorem enumL_len (ds:List PyData):(enumL ds).length=ds.length:=by simp[enumL]
theorem good_enum {K:PySem.W.Frag}{G:Hp}{a:Addr}{xs:List V}{ds:List PyData}(q:SqL K G a xs)(r:DenL K G xs ds):GoodIt K (Ite K a) G (enumL ds) where
 go:=fun H2 i s h=>by
  rw[enumL_len] at h
  have hl:i<xs.length:=by rw[r.length];exact h
  exact ⟨xs,xs[i],s.seq q,(by simp[hl])⟩
 yld:=fun H2 i x H3 d s h y=>by
  obtain⟨e,h1,zq2⟩:=enumL_get h
  subst zq2
  revert y
  refine fun zqq=>?_;obtain⟨p,v,hp,zq3,zq4,y⟩:=zqq
  subst zq3
  subst zq4
  obtain⟨v',h2,h3⟩:=r.get h1
  have:=y xs (s.seq q)
  rw[h2] at this
  obtain rfl:=Option.some.inj this
  exact .inr ⟨p,_,_,hp,rfl,rfl,rfl,.cons (.int _) (.cons h3 .nil)⟩
 stop:=fun H2 s=>⟨xs,s.seq q,by rw[r.length,enumL_len];exact Nat.le_refl _⟩
theorem iv_enum {X:Cx}{O:Ow}{es:List Expr}{x1}{tpos p pos:Pos}{e:Expr}{f:Rho->Option PyData}(hg:Gl X "enumerate")(hm:X.mg "enumerate"=none)(h:PV X O e f)(hs:starEach [e] X.env=[(false,eval e X.env)]:=by rfl) :
  PIv X O (.Tuple es x1 tpos) (.Call (.Name "enumerate" p) [e] [] pos) (fun ρ=>((f ρ).bind listD).map enumL):=(pi_enum hg hm h hs).imp fun σ H R zpat=>by
 obtain⟨hid,H0,ρ,ow,ds,E,hf,k⟩:=zpat
 obtain⟨ds',g1,rfl⟩:=map_some hf
 obtain⟨d,h1,h2⟩:=bind_some g1
 rw[listD_some h2] at h1
 refine⟨hid,H0,ρ,ow,_,E,h1,fun v H' s D=>?_⟩
 obtain⟨a,xs,rfl,q,r⟩:=den_lst D
 exact⟨a,rfl,⟨xs,(del_same _ _).seq q⟩,k _ H' s (good_enum q r)⟩
end L2
namespace L2
variable [Reg]
section
variable {X:Cx}{O:Ow}{i:Nat}{x:Str}{pos' spos:Pos}{elt tg iter:Expr}{ifs:List Expr}{scope:Scope}{pos:Pos}{fi:Rho->Option (List PyData)}{S:PyData->Rho->Option Rho}{ft:Rho->Option Bool}{fe:Rho->Option PyData}{k:Nat}{N:List Str}{ix:List Nat}
end
section
variable {X:Cx}{O:Ow}{i:Nat}{e a:Expr}{f fa:Rho->Option PyData}{pos p:Pos}
def tO (K:PySem.W.Frag)(O:Ow)(f:Rho->Option (Option Int)):TO:=fun σ H Q=>At5 K O f σ H fun hid H0 ρ ow o=>∀ H',Same H H'->Q o H'
abbrev POv (X:Cx)(O:Ow)(e:Option Expr)(f:Rho->Option (Option Int)):Prop:=PO X e (tO X.K O f)
theorem PO.imp {e:Option Expr}{t t':TO}(h:PO X e t)(hi:∀ σ H Q,t' σ H Q->t σ H Q):PO X e t':=fun pins s σ H Q I q=>h pins s σ H Q I (hi σ H Q q)
theorem o_none:POv X O none (fun _=>some none):=PO.imp po_none fun σ H Q ⟨hid,H0,ρ,ow,o,E,hf,k⟩=>by cases hf;exact k H (Same.refl H)
theorem o_some (h:PR X O e f):POv X O (some e) (fun ρ=>((f ρ).bind intO).map some):=PO.imp (po_some h) fun σ H Q zpat=>by
 obtain⟨hid,H0,ρ,ow,o,E,hf,k⟩:=zpat
 obtain⟨i,g1,rfl⟩:=map_some hf
 obtain⟨d,g2,g3⟩:=bind_some g1
 rw[intO_some g3] at g2
 exact⟨hid,H0,ρ,ow,_,E,g2,fun v H' s D=>⟨i,den_int D,k H' s⟩⟩
def cutL (ds:List PyData)(lo hi:Option Int):List PyData:=(ds.drop (HT.sIx ds.length 0 lo)).take (HT.sIx ds.length ds.length hi - HT.sIx ds.length 0 lo)
def cutD (x:Option PyData)(lo hi:Option (Option Int)):Option (List PyData):=(x.bind listD).bind fun ds=>lo.bind fun l=>hi.map fun h=>cutL ds l h
theorem fr_slice {lo hi:Option Expr}{fl fh:Rho->Option (Option Int)}{p2:Pos}(ha:PR X O a fa)(hl:POv X O lo fl)(hh:POv X O hi fh):PFr X O (.Subscript a (.Slice lo hi none p2) pos) (fun ρ=>cutD (fa ρ) (fl ρ) (fh ρ)):=(pe_slice sl_list ha hl hh).imp fun σ H Q zpat=>by
 obtain⟨hid,H0,ρ,ow,ds,E,hf,k⟩:=zpat
 obtain⟨es,g1,g2⟩:=bind_some hf
 obtain⟨d,g3,g4⟩:=bind_some g1
 rw[listD_some g4] at g3
 obtain⟨l,g5,g6⟩:=bind_some g2
 obtain⟨h,g7,rfl⟩:=map_some g6
 refine⟨hid,H0,ρ,ow,_,E,g3,fun x H1 s1 D1=>⟨hid,H0,ρ,ow,l,E.mono s1,g5,fun H2 s2=>⟨hid,H0,ρ,ow,h,(E.mono s1).mono s2,g7,fun H3 s3=>?_⟩⟩⟩
 obtain⟨q,vs,rfl,q1,r1⟩:=den_lst D1
 have s23:=s2.trans s3
 refine ⟨q,vs,rfl,s23.seq ((del_same _ _).seq q1),(fun n hn=>k n _ _ ((s1.trans s23).trans (same_new hn)) ((s1.trans s23).free hn) upd_same ?_)⟩
 unfold cutV cutL
 rw[r1.length]
 exact (((r1.mono (del_mono s23 _)).drop _).take _).mono (del_new (same_new hn) hn fun b z=>by rcases z with z | z;exact .inl z;exact .inr (by simpa using z))
def intsO:List PyData->Option (List Int)
 | []=>some []
 | .int i::r=>(intsO r).map (i::·)
 | _::_=>none
theorem intsO_map:∀ (ns:List Int),intsO (ns.map .int)=some ns
 | []=>rfl
 | n::r=>by rw[List.map_cons,intsO,intsO_map r];rfl
theorem intsO_some:∀ {ds:List PyData} {ns:List Int},intsO ds=some ns->ds=ns.map .int
 | [],ns,h=>by cases h;rfl
 | d::r,ns,h=>by
  cases d with
  | int i=>
   rw[intsO] at h
   obtain⟨ms,h1,rfl⟩:=map_some h
   rw[List.map_cons,← intsO_some h1]
  | _=>exact L2.no_ns h
theorem DenL.isInts {K:PySem.W.Frag}{H:Hp}:∀ {vs:List V} {ns:List Int},DenL K H vs (ns.map .int)->vs=ns.map .int
 | _,[],h=>denl_nil h
 | vs,n::r,h=>by
  obtain⟨v,ws,zq2,h1,h2⟩:=denl_cons h
  subst zq2
  rw[den_int h1,DenL.isInts h2]
  rfl
theorem DenL.rev {K:PySem.W.Frag}{H:Hp}:∀ {vs:List V} {ds:List PyData},DenL K H vs ds->DenL K H vs.reverse ds.reverse
 | _,_,.nil=>.nil
 | _,_,.cons h r=>by
  rw[List.reverse_cons,List.reverse_cons]
  exact (DenL.rev r).append (.cons h .nil)
theorem vals_rev:∀ {vs:List V} {us:List Value},Vals vs us->Vals vs.reverse us.reverse:=fun r=>r.reverse
def revD:PyData->Option (List PyData)
 | .list ds=>some ds.reverse
 | _=>none
def isNoneD (d e:PyData):Option PyData:=match e with
 | .none=>some (.bool (match d with | .none=>true | _=>false))
 | _=>none
def isntNoneD (d e:PyData):Option PyData:=match e with
 | .none=>some (.bool (match d with | .none=>false | _=>true))
 | _=>none
theorem op_is:OpR X (compareOp .Is) (fun x y H Q=>∃ d,Den X.K H x d∧y=.non∧Q (.bl (match d with | .none=>true | _=>false)) H):=by
 intro pins s σ H x y v u Q I rx ry h
 revert h
 refine fun zqq=>?_;obtain⟨d,D,zq2,q⟩:=zqq
 subst zq2
 cases ry
 cases D with
 | non=>cases rx;exact wpAny_is_self rfl ⟨.bl _,H,I,rfl,q⟩
 | bl b=>cases rx;exact wpAny_is_other rfl (fun z=>by cases z) ⟨.bl _,H,I,rfl,q⟩
 | int i=>obtain⟨t,rfl⟩:=rx;exact wpAny_is_other rfl (fun z=>by cases z) ⟨.bl _,H,I,rfl,q⟩
 | str i=>obtain⟨t,rfl⟩:=rx;exact wpAny_is_other rfl (fun z=>by cases z) ⟨.bl _,H,I,rfl,q⟩
 | tup _ _=>cases rx;exact wpAny_is_other rfl (fun z=>by cases z) ⟨.bl _,H,I,rfl,q⟩
 | lst _ _=>cases rx;exact wpAny_is_other rfl (fun z=>by cases z) ⟨.bl _,H,I,rfl,q⟩
 | fn _ _=>cases rx;exact wpAny_is_other rfl (fun z=>by cases z) ⟨.bl _,H,I,rfl,q⟩
 | exc _ _=>cases rx;exact wpAny_is_other rfl (fun z=>by cases z) ⟨.bl _,H,I,rfl,q⟩
 | obj _ _=>cases rx;exact wpAny_is_other rfl (fun z=>by cases z) ⟨.bl _,H,I,rfl,q⟩
 | dct _ _=>cases rx;exact wpAny_is_other rfl (fun z=>by cases z) ⟨.bl _,H,I,rfl,q⟩
theorem op_isnt:OpR X (compareOp .IsNot) (fun x y H Q=>∃ d,Den X.K H x d∧y=.non∧Q (.bl (match d with | .none=>false | _=>true)) H):=by
 intro pins s σ H x y v u Q I rx ry h
 revert h
 refine fun zqq=>?_;obtain⟨d,D,zq2,q⟩:=zqq
 subst zq2
 cases ry
 cases D with
 | non=>cases rx;exact wpAny_isNot_self rfl ⟨.bl _,H,I,rfl,q⟩
 | bl b=>cases rx;exact wpAny_isNot_other rfl (fun z=>by cases z) ⟨.bl _,H,I,rfl,q⟩
 | int i=>obtain⟨t,rfl⟩:=rx;exact wpAny_isNot_other rfl (fun z=>by cases z) ⟨.bl _,H,I,rfl,q⟩
 | str i=>obtain⟨t,rfl⟩:=rx;exact wpAny_isNot_other rfl (fun z=>by cases z) ⟨.bl _,H,I,rfl,q⟩
 | tup _ _=>cases rx;exact wpAny_isNot_other rfl (fun z=>by cases z) ⟨.bl _,H,I,rfl,q⟩
 | lst _ _=>cases rx;exact wpAny_isNot_other rfl (fun z=>by cases z) ⟨.bl _,H,I,rfl,q⟩
 | fn _ _=>cases rx;exact wpAny_isNot_other rfl (fun z=>by cases z) ⟨.bl _,H,I,rfl,q⟩
 | exc _ _=>cases rx;exact wpAny_isNot_other rfl (fun z=>by cases z) ⟨.bl _,H,I,rfl,q⟩
 | obj _ _=>cases rx;exact wpAny_isNot_other rfl (fun z=>by cases z) ⟨.bl _,H,I,rfl,q⟩
 | dct _ _=>cases rx;exact wpAny_isNot_other rfl (fun z=>by cases z) ⟨.bl _,H,I,rfl,q⟩
theorem den_non {K:PySem.W.Frag}{H:Hp}{v:V}(h:Den K H v .none):v=.non:=by cases h;rfl
theorem c_is:CmpD X .Is isNoneD:=⟨_,op_is,fun x y H d e r Q D1 D2 q k=>by
 unfold isNoneD at q
 split at q
 ·cases q;exact⟨d,D1,den_non D2,k _ (.bl _)⟩
 ·cases q⟩
theorem c_isnt:CmpD X .IsNot isntNoneD:=⟨_,op_isnt,fun x y H d e r Q D1 D2 q k=>by
 unfold isntNoneD at q
 split at q
 ·cases q;exact⟨d,D1,den_non D2,k _ (.bl _)⟩
 ·cases q⟩
end
end L2
namespace L2
variable [Reg]
theorem bt_len:bootBuiltins "len"=some (.builtin "len"):=by decide +kernel
theorem bt_abs:bootBuiltins "abs"=some (.builtin "abs"):=by decide +kernel
theorem bt_max:bootBuiltins "max"=some (.builtin "max"):=by decide +kernel
theorem bt_min:bootBuiltins "min"=some (.builtin "min"):=by decide +kernel
theorem bt_int:bootBuiltins "int"=some (.type "int"):=by decide +kernel
theorem bt_bool:bootBuiltins "bool"=some (.type "bool"):=by decide +kernel
theorem bt_list:bootBuiltins "list"=some (.type "list"):=by decide +kernel
theorem bt_tuple:bootBuiltins "tuple"=some (.type "tuple"):=by decide +kernel
def outD:Option Out->Option PyData
 | some (.rt r)=>some r
 | some (.nx _)=>some .none
 | _=>none
def runD (n m:Nat)(B:Rho->Option Out)(ds:List PyData):Option PyData:=if ds.length=n then outD (B (ds.map some++List.replicate m none)) else none
theorem runD_some {n m:Nat}{B:Rho->Option Out}{ds:List PyData}{r:PyData}(h:runD n m B ds=some r):ds.length=n∧outD (B (ds.map some++List.replicate m none))=some r:=by
 unfold runD at h
 split at h
 ·exact⟨by assumption,h⟩
 ·exact L2.no_ns h
theorem fn_auto {P:Program}{w:World}{K:PySem.W.Frag}{mg:Str->Option Value}{base:Heap}{x qual:Str}{st:Stmt}{f:Addr}{fd:FuncData}{N ps:List Str}{k:Nat}(O:Ow)(F:Fun K x qual st f fd)(S:FnScope N ps (defScope st))
  (hO:∀ i∈O.s.map (·.1),ps.length≤i) (B:Rho->Option Out)
  (hbody:∀ (cdv:Value),CdOk K f cdv->∀ (A:Around) (outer:List Env) (s:Shared) (H:Hp) (E:XK),Room k (A.deeper (envOfC qual (defScope st) s.heap.objs.size f cdv)) ->
   PSsv (cxOf CX0 P w K mg base N qual (defScope st) f cdv A outer s H E).nox O (defBody st) B) :
  FnOk P w K mg base CX0 (k+1) f fd ps (spR K O.r (runD ps.length (N.length - ps.length) B)):=by
 refine fn_pure O F S (fun ds r h=>(runD_some h).1) hO B hbody fun ds r h=>?_
 obtain⟨h1,h2⟩:=runD_some h
 rw[h1]
 unfold outD at h2
 split at h2
 ·rename_i q
  obtain rfl:=Option.some.inj h2
  exact .inl q
 ·rename_i ρ q
  obtain rfl:=Option.some.inj h2
  exact .inr ⟨rfl,ρ,q⟩
 ·exact L2.no_ns h2
def DefOk (P:Program)(w:World)(K:PySem.W.Frag)(mg:Str->Option Value)(base:Heap)(k:Nat)(x:Str)(ps:List Str)(T:Ty)(F:List PyData->Option PyData):Prop:=
 ∃ f fd,FnOk P w K mg base CX0 k f fd ps (spR K T F)∧mg x=some (.ref f)∧PySem.W.keepIn K (.ref f)=true∧Binds K fd ps []∧PySem.W.nsIn K mainGlobals x=some (some (.ref f))
section
variable {X:Cx}{O:Ow}{a:Expr}{es:List Expr}{pos p:Pos}{fs:Rho->Option (List PyData)}{k:Nat}{ps:List Str}{x:Str}{T:Ty}{F:List PyData->Option PyData}
theorem r_callD (G:DefOk X.prog X.w X.K X.mg X.base k x ps T F)(hr:Room k X.A)(hg:Gl X x)(ha:PAr X O (a::es) fs)(hdb:(x==("__debug__":Str))=false:=by decide)(he:starEach (a::es) X.env=(false,eval a X.env)::starEach es X.env:=by rfl)(hpl:(backTo pos (starEach es X.env)).any (·.1)=false:=by rfl) :
  PR X O (.Call (.Name x p) (a::es) [] pos) (fun ρ=>(fs ρ).bind F):=by
 obtain⟨f,fd,h1,h2,h3,h4,_⟩:=id (G)
 exact r_call h1 hr hg h2 h3 h4 ha hdb he hpl
theorem ft_callD (G:DefOk X.prog X.w X.K X.mg X.base k x ps T F)(hr:Room k X.A)(hg:Gl X x)(ha:PAv X O (a::es) fs)(hdb:(x==("__debug__":Str))=false:=by decide)(he:starEach (a::es) X.env=(false,eval a X.env)::starEach es X.env:=by rfl)(hpl:(backTo pos (starEach es X.env)).any (·.1)=false:=by rfl) :
  PFt X O T (.Call (.Name x p) (a::es) [] pos) (fun ρ=>(fs ρ).bind F):=by
 obtain⟨f,fd,h1,h2,h3,h4,_⟩:=id (G)
 exact ft_call h1 hr hg h2 h3 h4 ha hdb he hpl
end
theorem len0 {P:List Value->Prop}{us:List Value}(h:us.length=0)(k:P []):P us:=by
 cases us with
 | nil=>exact k
 | cons a r=>cases h
theorem lenS {P:List Value->Prop}{us:List Value}{n:Nat}(h:us.length=n+1)(k:∀ a r,r.length=n->P (a::r)):P us:=by
 cases us with
 | nil=>cases h
 | cons a r=>exact k a r (Nat.succ.inj h)
theorem len1 {P:List Value->Prop}{us:List Value}(h:us.length=1)(k:∀ a,P [a]):P us:=lenS h fun a r h=>len0 (P:=fun r=>P (a::r)) h (k a)
theorem len2 {P:List Value->Prop}{us:List Value}(h:us.length=2)(k:∀ a b,P [a,b]):P us:=lenS h fun a r h=>len1 (P:=fun r=>P (a::r)) h (k a)
theorem len3 {P:List Value->Prop}{us:List Value}(h:us.length=3)(k:∀ a b c,P [a,b,c]):P us:=lenS h fun a r h=>len2 (P:=fun r=>P (a::r)) h (k a)
end L2
namespace L2
variable [Reg]
def Keeps (P:Program)(w:World)(h:Heap)(g:Addr):Prop:=∃ k,(k=Keeper.frame∨k=Keeper.machine∨k=Keeper.boundFrame)∧PySem.W.Looks (model P w) h (keeperOf (.ref g)) k
structure FvOk (P:Program)(w:World)(K:PySem.W.Frag)(mg:Str->Option Value)(base:Heap)(k:Nat)(tag:Str)(F:List PyData->Option PyData):Prop where
 keep:∀ (A:Around) (outer:List Env) (s:Shared) (H:Hp) (g:Addr) (cv:List V),Env0 P w K mg base A outer s H->FnV K H g tag cv->Keeps P w s.heap g
 run:∀ (A:Around) (outer:List Env) (s:Shared) (H:Hp) (g:Addr) (cv:List V) (us:List Value) (vs:List V) (Q:VK) (E:XK),Room k A->Env0 P w K mg base A outer s H->FnV K H g tag cv->Vals vs us->spR K .cl F (vs++cv) H Q E ->
  codeAny (model P w) A (.call (.ref g) ⟨us,[]⟩) (CR CX0 outer P w H s Q E) s
theorem FvOk.mono {P:Program}{w:World}{K:PySem.W.Frag}{mg:Str->Option Value}{base:Heap}{j k:Nat}{tag:Str}{F:List PyData->Option PyData}(h:FvOk P w K mg base j tag F)(hk:j≤k):FvOk P w K mg base k tag F:=
 ⟨h.keep,fun A outer s H g cv us vs Q E hr=>h.run A outer s H g cv us vs Q E (hr.mono hk)⟩
abbrev FTab:=List (Str×(List PyData->Option PyData))
section
variable {X:Cx}{O:Ow}{a:Expr}{es:List Expr}{pos p:Pos}{fs:Rho->Option (List PyData)}{fx:Rho->Option PyData}{k:Nat}{ps:List Str}{x:Str}{T:FTab}{T':Ty}{F:List PyData->Option PyData}
end
end L2
namespace L2
variable [Reg]
theorem lam_q {P q:Program}(h:((lamNames P).all fun y=>((recsOf q).find? fun e=>e.name==y).isSome)=true):∀ y∈lamNames P,((recsOf q).find? fun e=>e.name==y).isSome=true:=List.all_eq_true.mp h
theorem lam_k {P:Program}{K:PySem.W.Frag}(h:((lamNames P).all fun y=>match PySem.W.tabIn K y with | some z=>(K.lookup z.2).isNone | none=>true)=true)(y:Str)(c p:Addr)(hy:y∈lamNames P)(e:PySem.W.tabIn K y=some (c,p)):K.lookup p=none:=by
 have:=List.all_eq_true.mp h y hy
 rw[e] at this
 simpa using this
structure LamSc (L:Lam):Prop where
 kind:L.scope.kind=.function
 co:L.scope.isCoroutine=false
 gen:L.scope.isGenerator=false
 nocell:∀ y∈L.scope.names,y.2≠.cell
 par:∀ x∈L.ps,L.scope.names.lookup x=some .local
 fr:((L.scope.names.filter fun x=>x.2==.free).map (fun z=>z.1)).reverse=L.free
 frl:∀ x∈L.free,L.scope.names.lookup x=some .free
 nd:L.ps.Nodup
 ndf:L.free.Nodup
section
variable {P:Program}{w:World}{K:PySem.W.Frag}{mg:Str->Option Value}{base:Heap}{L:Lam}{clos:List (Str×Addr)}{g c':Addr}{q:Str}{A:Around}{outer:List Env}{s:Shared}{H:Hp}
end
section
variable {X:Cx}
def Made (H:Hp)(L:Lam)(clos:List (Str×Addr))(g:Addr):Prop:=
 ∃ (pm:Value) (c':Addr) (ctv:Value) (oc:Obj) (vs:Array Value) (q:Str) (t:Tok) (φ:HO),H g=some (fz g (PySem.W.kla_obj "<lambda>" L.qual L.params L.body L.scope clos pm c' ctv))∧H c'=some (.frz oc φ)∧oc.data=.fields vs∧vs[1]?=some (.str q t)
theorem Made.mono {H H':Hp}{L:Lam}{clos:List (Str×Addr)}{g:Addr}(e:Same H H')(h:Made H L clos g):Made H' L clos g:=by
 obtain⟨pm,c',ctv,oc,vs,q,t,φ,h1,h2,h3⟩:=id (h)
 exact ⟨pm,c',ctv,oc,vs,q,t,φ,e _ _ h1,e _ _ h2,h3⟩
theorem fz_ok {P:Program}{w:World}{H:Hp}{h:Heap}{a:Addr}{o:Obj}(e:h.get? a=some o):ObjOk P w H h a (fz a o):=⟨e,e,⟨o,e⟩,fun h1 h2 z k=>k o z⟩
end
section
variable {X:Cx}{O:Ow}
def nf:PyData->Bool
 | .dict _=>false
 | .list ds=>go ds
 | .tuple ds=>go ds
 | _=>true
where go:List PyData->Bool
 | []=>true
 | d::r=>nf d&&go r
theorem SqT.sub {K:PySem.W.Frag}{G G':Hp}(e:∀ a o,G a=some o->(∀ ob φ,o≠.frz ob (.ext φ))->G' a=some o){a:Addr}{vs:List V}(q:SqT K G a vs):SqT K G' a vs:=by
 rcases q with (q | ⟨o,q⟩) | q
 ·exact .inl (.inl (e _ _ q fun _ _ z=>by cases z))
 ·exact .inl (.inr ⟨o,e _ _ q fun _ _ z=>by cases z⟩)
 ·exact .inr q
theorem SqL.sub {K:PySem.W.Frag}{G G':Hp}(e:∀ a o,G a=some o->(∀ ob φ,o≠.frz ob (.ext φ))->G' a=some o){a:Addr}{vs:List V}(q:SqL K G a vs):SqL K G' a vs:=by
 rcases q with (q | ⟨o,q⟩) | q
 ·exact .inl (.inl (e _ _ q fun _ _ z=>by cases z))
 ·exact .inl (.inr ⟨o,e _ _ q fun _ _ z=>by cases z⟩)
 ·exact .inr q
theorem Den.sub {K:PySem.W.Frag}{G G':Hp}(e:∀ a o,G a=some o->(∀ ob φ,o≠.frz ob (.ext φ))->G' a=some o){v:V}{d:PyData}(z:Den K G v d):nf d=true->Den K G' v d:=
 Den.rec (motive_1:=fun v d _=>nf d=true->Den K G' v d) (motive_2:=fun vs ds _=>nf.go ds=true->DenL K G' vs ds) (fun _=>.non) (fun b _=>.bl b) (fun i _=>.int i) (fun x _=>.str x) (fun q _ r h=>.tup (q.sub e) (r h)) (fun q _ r h=>.lst (q.sub e) (r h)) (fun _ _ _ h=>by cases h) (fun _ _ _ h=>by cases h) (fun _ _ _ h=>by cases h) (fun _ _ _ h=>by cases h) (fun _=>.nil) (fun _ _ a b h=>by rw[nf.go,Bool.and_eq_true] at h;exact .cons (a h.1) (b h.2)) z
theorem DenL.sub {K:PySem.W.Frag}{G G':Hp}(e:∀ a o,G a=some o->(∀ ob φ,o≠.frz ob (.ext φ))->G' a=some o){vs:List V}{ds:List PyData}(z:DenL K G vs ds):nf.go ds=true->DenL K G' vs ds:=
 DenL.rec (motive_1:=fun v d _=>nf d=true->Den K G' v d) (motive_2:=fun vs ds _=>nf.go ds=true->DenL K G' vs ds) (fun _=>.non) (fun b _=>.bl b) (fun i _=>.int i) (fun x _=>.str x) (fun q _ r h=>.tup (q.sub e) (r h)) (fun q _ r h=>.lst (q.sub e) (r h)) (fun _ _ _ h=>by cases h) (fun _ _ _ h=>by cases h) (fun _ _ _ h=>by cases h) (fun _ _ _ h=>by cases h) (fun _=>.nil) (fun _ _ a b h=>by rw[nf.go,Bool.and_eq_true] at h;exact .cons (a h.1) (b h.2)) z
structure LamAtX (X:Cx)(L:Lam)(ix:List Nat):Prop where
 tab:∃ y c p,y∈lamNames X.prog∧PySem.W.tabIn X.K y=some (c,p)∧X.env.code=.ref c
 qual:X.env.qual++"<lambda>"=L.qual
 dfl:defaultsOf L.params X.env=([],[])
 cell:∀ x∈L.free,X.env.scope.names.lookup x=some .cell
 fn:∀ x∈L.free,X.fn x=true
 sl:ix.map (fun i=>X.N[i]?)=L.free.map some
end
end L2
namespace L2
open Sem (wp)
variable [Reg]
section
variable {M:Model}{A:Around}{E:Value->Shared->Prop}{s:Shared}{env:Env}{outer:List Env}{base:Heap}{L e:Addr}{oe:Obj}{vs:Array Value}{Q:Unit->Shared->Prop}
structure Noted (fs:List Addr)(e:Addr)(oe:Obj)(fl:Value)(h h':Heap):Prop where
 exc:h'.get? e=some (oe.mapFields (·.setIfInBounds 1 (.ref h.objs.size)))
 tb:∃ oT ts,h'.get? h.objs.size=some oT∧oT.data=.fields ts∧ts[3]?=some fl
 keep:∀ b o,b≠e->b∉fs->h.get? b=some o->h'.get? b=some o
 slot:∀ b o,b≠e->h.get? b=some o->∃ sl,h'.get? b=some { o with slots:=sl }
theorem tail_exact {head:Value}{hadNext:Bool}(hfr:A.frames=some (env::outer))(hl:s.heap.FunFrames base (env::outer))(hf:env.frame=some L)
  (he:s.heap.get? e=some oe) (hd:oe.data=.fields vs) (hsz:1<vs.size)
  (h:∀ h',Noted ((env::outer).filterMap (·.frame)) e oe (rawInt L) s.heap h'->Q () { s with heap:=h' }) :
  wpAny M A (do let a ← frameOf env;let pl ← entryPlaceOf L hadNext;let b ← EntryCells.newEntry head a .none (rawInt L) .none pl;setField (.ref e) 1 b) Q E s:=by
 have hene:e∉(env::outer).filterMap (·.frame):=fun hm=>by
  obtain⟨_,o,ho,hnf⟩:=hl.mem hm
  rw[he] at ho;injection ho with ho;subst ho;exact hnf vs hd
 refine wpAny_bind (wpAny_frameOf_fun hfr hl hf fun h₁ hs₁=>?_)
 refine wpAny_bind (wpAny_entryPlaceOf fun pl hpl=>?_)
 unfold EntryCells.newEntry newFields
 refine wpAny_bind (wpAny_newObj_type ?_ (hpl.sizeOk5 _ _ _ _ _))
 have he₁:h₁.get? e=some oe:=(hs₁.2.1 e hene).trans he
 have he₂:=Heap.get?_push_of_some (h:=h₁) { cls:=.type "traceback",dict:=none,data:=.fields ([head,.ref L,.none,rawInt L,.none]++(if pl.isEmpty then List.replicate 6 Value.none else pl)).toArray } he₁
 refine wpAny_setField he₂ hd hsz (h _ ?_)
 have hTe:h₁.objs.size≠e:=Nat.ne_of_gt (Heap.lt_size he₁)
 have hd₃:=Obj.data_mapFields hd (·.setIfInBounds 1 (Value.ref h₁.objs.size))
 have he₃:=Heap.get?_update_self (Obj.mapFields (·.setIfInBounds 1 (Value.ref h₁.objs.size))) he₂ (Obj.isFreed_of_fields hd₃)
 have hT₃:=(Heap.get?_update_other (h₁.push { cls:=.type "traceback",dict:=none,data:=.fields ([head,.ref L,.none,rawInt L,.none]++(if pl.isEmpty then List.replicate 6 Value.none else pl)).toArray })
  (Obj.mapFields (·.setIfInBounds 1 (Value.ref h₁.objs.size))) (Ne.symm hTe)).trans (Heap.get?_push_size h₁ rfl)
 have keep:∀ b o,b≠e->h₁.get? b=some o ->
   ((h₁.push { cls:=.type "traceback",dict:=none,data:=.fields ([head,.ref L,.none,rawInt L,.none]++(if pl.isEmpty then List.replicate 6 Value.none else pl)).toArray }).update e (Obj.mapFields (·.setIfInBounds 1 (Value.ref h₁.objs.size)))).get? b=some o:=
  fun b o hbe hb=>by
   rw[Heap.get?_update_other _ _ (Ne.symm hbe)]
   exact Heap.get?_push_of_some _ hb
 refine⟨by rw[← hs₁.1];exact he₃,⟨_,_,by rw[← hs₁.1];exact hT₃,rfl,by first | (simp;done) | (rcases hpl with rfl | ⟨_,_,_,_,_,_,_,rfl⟩ <;> simp)⟩,fun b o h1 h2 h3=>keep b o h1 ((hs₁.2.1 b h2).trans h3),fun b o h1 h3=>?_⟩
 obtain⟨sl,hs⟩:=hs₁.2.2 b o h3
 exact⟨sl,keep b _ h1 hs⟩
def Tr (h:Heap)(vs:Array Value):Prop:=vs[1]?=some .none∨∃ T oT ts,vs[1]?=some (.ref T)∧h.get? T=some oT∧oT.data=.fields ts∧ts[3]?=some .none
theorem note_exact (hfr:A.frames=some (env::outer))(hl:s.heap.FunFrames base (env::outer))(hf:env.frame=some L)
  (he:s.heap.get? e=some oe) (hd:oe.data=.fields vs) (h1:Tr s.heap vs)
  (h:∀ h',Noted ((env::outer).filterMap (·.frame)) e oe (rawInt L) s.heap h'->Q () { s with heap:=h' }) :
  wpAny M A (noteFrame (.ref e) env) Q E s:=by
 unfold noteFrame
 simp only[hf]
 rcases h1 with h1 | ⟨T,oT,ts,h1,hT,hdT,h3⟩
 ·refine wpAny_bind (wpAny_field he hd h1 ?_)
  rw[if_neg (by decide)]
  exact tail_exact hfr hl hf he hd (Array.getElem?_eq_some_iff.mp h1).1 h
 ·refine wpAny_bind (wpAny_field he hd h1 ?_)
  rw[if_pos (show (Value.ref T != Value.none)=true from by simp)]
  refine wpAny_bind (wpAny_field hT hdT h3 ?_)
  rw[if_neg (show ¬ ((Value.none==rawInt L)=true) from by simp[rawInt])]
  refine wpAny_bind (wpAny_setField hT hdT (Array.getElem?_eq_some_iff.mp h3).1 ?_)
  rw[Heap.update_setField_same s.heap T oT ts 3 .none hT hdT h3]
  exact tail_exact hfr hl hf he hd (Array.getElem?_eq_some_iff.mp h1).1 h
theorem down_exact {L:Addr}{fs:List Addr}{s:Shared}{h0:Heap}(hne:e<h0.objs.size)(hd:oe.data=.fields vs)(hsz:1<vs.size)(n:Noted fs e oe (rawInt L) h0 s.heap)(hfs:∀ b∈fs,b<h0.objs.size)
  (h:∀ h',Noted fs e oe .none h0 h'->Q () { s with heap:=h' }):wpAny M A (setFlight (.ref e) none) Q E s:=by
 obtain⟨oT,ts,h2,h3,h4⟩:=n.tb
 have hTe:h0.objs.size≠e:=Nat.ne_of_gt hne
 have hz:3<ts.size:=(Array.getElem?_eq_some_iff.mp h4).1
 have hd':=Obj.data_mapFields hd (·.setIfInBounds 1 (Value.ref h0.objs.size))
 refine wpAny_setFlight_none n.exc hd' (by simp[hsz]) h2 h3 hz (h _ ?_)
 have other:∀ b,b≠h0.objs.size->(s.heap.update h0.objs.size (Obj.mapFields (·.setIfInBounds 3 Value.none))).get? b=s.heap.get? b:=fun b hb=>Heap.get?_update_other _ _ (Ne.symm hb)
 refine⟨(other e (Ne.symm hTe)).trans n.exc,⟨_,_,Heap.get?_update_self _ h2 (Obj.isFreed_of_fields (Obj.data_mapFields h3 _)),Obj.data_mapFields h3 _,by simp[hz]⟩,fun b o x1 x2 x3=>?_,fun b o x1 x3=>?_⟩
 ·exact (other b (Nat.ne_of_lt (Heap.lt_size x3))).trans (n.keep b o x1 x2 x3)
 ·obtain⟨sl,q⟩:=n.slot b o x1 x3
  exact⟨sl,(other b (Nat.ne_of_lt (Heap.lt_size x3))).trans q⟩
end
structure FlyC (H:Hp)(h G:Heap)(e C:Addr)(od:Option Addr):Prop where
 ex:∃ oe vs,h.get? e=some oe∧oe.cls=.ref C∧oe.dict=od∧oe.data=.fields vs∧Tr h vs
 fre:H e=none
 new:G.get? e=none
structure Fly (X:Cx)(pins:List (Addr×Obj))(H:Hp)(s:Shared)(e C:Addr)(od:Option Addr):Prop where
 c:FlyC H s.heap X.s₀.heap e C od
 pin:∀ p∈X.pn++pins,p.1≠e
theorem Obj.dict_mapFields (o:Obj)(f:Array Value->Array Value):(o.mapFields f).dict=o.dict:=by
 obtain⟨c,d,dt,sl⟩:=o
 cases dt <;> rfl
def CXe (P:Program)(w:World):CXT:=fun outer H s E e s'=>∃ H' a C od,e=.ref a∧s'.os=s.os∧AllBare s'.gens∧Un (frs outer) [] H H' s.heap s'.heap∧HOk P w H' s'.heap∧FlyC H' s'.heap s.heap a C od∧E (.ref C) od H'
theorem Tr.of_noted {fs:List Addr}{e:Addr}{oe:Obj}{h0 h:Heap}{vs:Array Value}(hsz:1<vs.size)(n:Noted fs e oe .none h0 h):Tr h (vs.setIfInBounds 1 (.ref h0.objs.size)):=by
 obtain⟨oT,ts,h2,h3,h4⟩:=n.tb
 exact .inr ⟨_,oT,ts,by simp[hsz],h2,h3,h4⟩
theorem Tr.sz {h:Heap}{vs:Array Value}(t:Tr h vs):1<vs.size:=by
 rcases t with t | ⟨_,_,_,t,_⟩
 ·exact (Array.getElem?_eq_some_iff.mp t).1
 ·exact (Array.getElem?_eq_some_iff.mp t).1
section
variable {P:Program}{w:World}{K:PySem.W.Frag}{mg:Str->Option Value}{base:Heap}{N:List Str}{qual:Str}{scope:Scope}{f:Addr}{cd:Value}{A:Around}{outer:List Env}{s s':Shared}{H H':Hp}{E:XK}{pins:List (Addr×Obj)}{σ:St}{a C:Addr}{od:Option Addr}
theorem cx_leave (I:Inv (cxOf (CXe P w) P w K mg base N qual scope f cd A outer s H E) pins σ H' s')(F:FlyC H' s'.heap s.heap a C od)(q:E (.ref C) od H'):(cxOf (CXe P w) P w K mg base N qual scope f cd A outer s H E).xe (.ref a) s':=by
 obtain⟨oe,vs,he,hc,hdi,hd,tr⟩:=F.ex
 show wpAny (model P w) _ (leaving _ (.ref a)) _ _ s'
 unfold leaving
 have hst:=I.stack
 refine wpAny_bind (note_exact (L:=s.heap.objs.size) I.ok.frames hst rfl he hd tr fun h1 n1=>?_)
 have hfs:∀ b∈((envOfC qual scope s.heap.objs.size f cd)::outer).filterMap (·.frame),b<s'.heap.objs.size:=fun b hb=>by
  obtain⟨_,o,ho,_⟩:=hst.mem hb
  exact Heap.lt_size ho
 refine down_exact (Heap.lt_size he) hd tr.sz n1 hfs fun h2 n2=>?_
 have hLs:s.heap.objs.size≤(cxOf (CXe P w) P w K mg base N qual scope f cd A outer s H E).env.locals:=I.ok.above
 have nfr:∀ b o,s.heap.get? b=some o->b∉frs outer->b∉((envOfC qual scope s.heap.objs.size f cd)::outer).filterMap (·.frame):=fun b o e hb z=>by
  rcases List.mem_cons.mp (I.stkSub b z) with z | z
  ·exact absurd (Heap.lt_size e) (by rw[z];exact Nat.not_lt.mpr hLs)
  ·exact hb z
 have na:∀ b o,s.heap.get? b=some o->b≠a:=fun b o e z=>by rw[z,F.new] at e;cases e
 refine ⟨H',a,C,od,rfl,I.os,I.bare,(⟨fun b o e n hb hx=>?_,fun b o e n hb hx=>?_,I.base.free,fun b o e hx=>?_,I.base.tups,I.base.frzs,I.base.tbls,I.base.tabs⟩),(fun b u e=>?_),(⟨⟨_,_,n2.exc,by rw[Obj.cls_mapFields];exact hc,by rw[Obj.dict_mapFields];exact hdi,Obj.data_mapFields hd _,Tr.of_noted tr.sz n2⟩,F.fre,F.new⟩),q⟩
 ·exact n2.keep b o (na b o e) (nfr b o e hb) (I.base.keep b o e n hb hx)
 ·obtain⟨sl,e1⟩:=I.base.slot b o e n hb hx
  obtain⟨sl',e2⟩:=n2.slot b _ (na b o e) e1
  exact⟨sl',e2⟩
 ·obtain⟨o',e1⟩:=I.base.there b o e hx
  obtain⟨sl',e2⟩:=n2.slot b _ (na b o e) e1
  exact⟨_,e2⟩
 ·have keepT:∀ c v,s'.heap.get? c=some v->H' c≠none->h2.get? c=some v:=fun c v q1 q2=>
   n2.keep c v (fun z=>q2 (by rw[z];exact F.fre)) (fun z=>q2 (I.stkFree c z)) q1
  refine (I.hok b u e).stay (fun c v hc q1=>keepT c v q1 ?_) (fun _ q=>q) fun _ _ q=>q
  rcases hc with rfl | hc
  ·rw[e];simp
  ·rw[hc];simp
end
section
variable {X:Cx}{k:Nat}{f:Addr}{fd:FuncData}{ps:List Str}{sp:Sp}{pins:List (Addr×Obj)}{σ:St}{H:Hp}{s:Shared}{Q:VK}{E:XK}{us:List Value}{vs:List V}
theorem run_fnX (F:FnOk X.prog X.w X.K X.mg X.base (CXe X.prog X.w) k f fd ps sp)(hr:Room k X.A)(hb:Binds X.K fd ps [])(hex:X.ex=[])(I:Inv X pins σ H s)(r:Vals vs us)(h:sp vs H Q E)
  (hx:∀ s' H' a C od,Inv X pins σ H' s'->Fly X pins H' s' a C od->E (.ref C) od H'->X.xe (.ref a) s'):wpAny (model X.prog X.w) X.A (call (.ref f) us) (EP X pins σ Q) X.xe s:=by
 have hl:us.length=ps.length:=by rw[← r.length];exact F.len _ _ _ _ h
 have hb':=hb s us I.kIn (by rw[List.append_nil];exact hl)
 rw[List.append_nil] at hb'
 refine wpAny_call (codeAny_mono (F.run X.A X.stack s H ⟨us,[]⟩ us vs Q E hr I.env0 hb' r h) fun r s' hq=>?_)
 cases r with
 | error e=>
  revert hq
  refine fun zqq=>?_;obtain⟨H',a,C,od,zq4,ho,hg,un,hok,fl,q⟩:=zqq
  subst zq4
  refine hx s' H' a C od (I.call' ho un hok hg fun b z=>absurd z (by simp)) ⟨⟨fl.ex,fl.fre,?_⟩,fun p hp z=>?_⟩ q
  rotate_left
  ·have:=(I.pin p hp).1
   rw[z,fl.new] at this;cases this
  cases e0:X.s₀.heap.get? a with
  | none=>rfl
  | some o=>
   obtain⟨o',e1⟩:=I.base.there a o e0 (by rw[hex];simp)
   rw[fl.new] at e1;cases e1
 | ok fl=>
  cases fl with
  | ret u=>exact I.after hq
  | next=>exact False.elim hq
  | brk=>exact False.elim hq
  | cont=>exact False.elim hq
end
theorem ObjOk.there {P:Program}{w:World}{H:Hp}{h:Heap}{a:Addr}{o:HO}(x:ObjOk P w H h a o):∃ u,h.get? a=some u:=by
 cases o with
 | lst xs=>obtain⟨_,_,_,_,e⟩:=x;exact⟨_,e⟩
 | tup xs=>obtain⟨_,_,_,o,e,_⟩:=x;exact⟨_,e⟩
 | dK kvs=>obtain⟨_,_,_,_,o,_,_,e,_⟩:=x;exact⟨_,e⟩
 | dT kvs=>obtain⟨_,_,_,_,o,_,_,e,_⟩:=x;exact⟨_,e⟩
 | set S n=>obtain⟨o,_,_,_,e,_⟩:=x;exact⟨_,e⟩
 | ins C dx fs=>obtain⟨_,_,_,e,_⟩:=x;exact⟨_,e⟩
 | own y=>obtain⟨_,e⟩:=x;exact⟨_,e⟩
 | xd fs=>obtain⟨_,⟨_,_,_,e,_⟩,_⟩:=x;exact⟨_,e⟩
 | rng lo hi=>obtain⟨_,_,_,e⟩:=x;exact⟨_,e⟩
 | frz ob u=>obtain⟨e,_⟩:=x;exact⟨_,e⟩
 | tbl ps=>exact⟨_,x⟩
 | tab=>obtain⟨_,e,_⟩:=x;exact⟨_,e⟩
 | met f y=>exact⟨_,x⟩
 | ext φ=>obtain⟨_,⟨_,e⟩,_⟩:=x;exact⟨_,e⟩
theorem Inv.none_of {X:Cx}{pins:List (Addr×Obj)}{σ:St}{H:Hp}{s:Shared}{a:Addr}(I:Inv X pins σ H s)(hex:X.ex=[])(e:s.heap.get? a=none):H a=none∧X.s₀.heap.get? a=none∧∀ p∈X.pn++pins,p.1≠a:=by
 refine⟨?_,?_,fun p hp z=>?_⟩
 ·cases q:H a with
  | none=>rfl
  | some u=>
   obtain⟨o,r⟩:=(I.hok a u q).there
   rw[e] at r;cases r
 ·cases q:X.s₀.heap.get? a with
  | none=>rfl
  | some o=>
   obtain⟨o',r⟩:=I.base.there a o q (by rw[hex];simp)
   rw[e] at r;cases r
 ·have:=(I.pin p hp).1
  rw[z,e] at this;cases this
end L2
namespace L2
variable [Reg]
def XIs (K:PySem.W.Frag)(H:Hp)(C:Addr)(od:Option Addr)(x:PyData):Prop:=
 ∃ cls fv fd,x=excD cls (nmD fv++fd)∧PySem.W.nsIn K mainGlobals cls=some (some (.ref C))∧((fv=[]∧od=none)∨∃ dx,od=some dx∧H dx=some (.xd fv))∧DenL K H (fv.map (·.2)) fd
theorem XIs.mono {K:PySem.W.Frag}{H H':Hp}{C:Addr}{od:Option Addr}{x:PyData}(s:Same H H')(h:XIs K H C od x):XIs K H' C od x:=by
 obtain⟨cls,fv,fd,h1,h2,h3,h4⟩:=id (h)
 refine ⟨cls,fv,fd,h1,h2,?_,h4.mono s⟩
 rcases h3 with h3 | ⟨dx,h3,h5⟩
 ·exact .inl h3
 ·exact .inr ⟨dx,h3,s _ _ h5⟩
inductive RX where
 | ret (d:PyData) | exc (x:PyData)
def spX (K:PySem.W.Frag)(T:Ty)(F:List PyData->Option RX):Sp:=fun vs H Q E=>∃ (hid:Addr->Prop) (ds:List PyData) (r:RX),(∀ b,hid b->∃ vs:OwO,H b=some vs.ho)∧DenL K (del H hid) vs ds∧F ds=some r ∧
 match r with
 | .ret d=>∀ v as H',Same H H'->(∀ p∈as,H p=none)->DenO K H' (del H' (uni hid as)) T v d as->Q v H'
 | .exc x=>∀ C od H',Same H H'->XIs K (del H' hid) C od x->E (.ref C) od H'
def tXt (X:Cx)(O:Ow)(T:Ty)(f:Rho->Option RX):TE:=fun σ H Q=>At5 X.K O f σ H fun hid H0 ρ ow r=>
 match r with
 | .ret d=>∀ v as H',Same H H'->(∀ p∈as,H p=none)->DenO X.K H' (del H' (uni hid (as++ow))) T v d as->Q v H'
 | .exc x=>∀ pins s' H' a C od,Inv X pins σ H' s'->Same H H'->Fly X pins H' s' a C od->XIs X.K (del H' (uni hid ow)) C od x->X.xe (.ref a) s'
abbrev PXt (X:Cx)(O:Ow)(T:Ty)(e:Expr)(f:Rho->Option RX):Prop:=PE X e (tXt X O T f)
def DefX (P:Program)(w:World)(K:PySem.W.Frag)(mg:Str->Option Value)(base:Heap)(k:Nat)(x:Str)(ps:List Str)(T:Ty)(F:List PyData->Option RX):Prop:=
 ∃ f fd,FnOk P w K mg base (CXe P w) k f fd ps (spX K T F)∧mg x=some (.ref f)∧PySem.W.keepIn K (.ref f)=true∧Binds K fd ps []∧PySem.W.nsIn K mainGlobals x=some (some (.ref f))
def pureX (F:List PyData->Option RX)(ds:List PyData):Option PyData:=(F ds).bind fun r=>match r with
 | .ret d=>some d
 | .exc _=>none
theorem DefX.ok {P:Program}{w:World}{K:PySem.W.Frag}{mg:Str->Option Value}{base:Heap}{k:Nat}{x:Str}{ps:List Str}{T:Ty}{F:List PyData->Option RX}(G:DefX P w K mg base k x ps T F):DefOk P w K mg base k x ps T (pureX F):=by
 obtain⟨f,fd,h1,h2,h3,h4,h5⟩:=id (G)
 have imp:∀ vs H Q E,spR K T (pureX F) vs H Q E->spX K T F vs H Q E0:=fun vs H Q E zpat=>by
  obtain⟨hid,ds,r,a1,a2,a3,a4⟩:=zpat
  obtain⟨q,b1,b2⟩:=bind_some a3
  cases q with
  | ret d=>cases b2;exact⟨hid,ds,.ret r,a1,a2,b1,a4⟩
  | exc x=>exact L2.no_ns b2
 refine ⟨f,fd,(⟨fun vs H Q E h=>h1.len vs H Q E0 (imp vs H Q E h),fun A outer s H args us vs Q E hr he hb hv hs=>?_⟩),h2,h3,h4,h5⟩
 refine codeAny_mono (h1.run A outer s H args us vs Q E0 hr he hb hv (imp vs H Q E hs)) fun r s' hq=>?_
 cases r with
 | error e=>
  obtain⟨H',a,C,od,_,_,_,_,_,_,q⟩:=id (hq)
  exact q.elim
 | ok fl=>cases fl <;> exact hq
section
variable {X:Cx}{O:Ow}{a:Expr}{es:List Expr}{pos p:Pos}{fs:Rho->Option (List PyData)}{k:Nat}{ps:List Str}{x:Str}{T:Ty}{F:List PyData->Option RX}
theorem xt_call (G:DefX X.prog X.w X.K X.mg X.base k x ps T F)(hr:Room k X.A)(hg:Gl X x)(hex:X.ex=[])(ha:PAv X O (a::es) fs)(hdb:(x==("__debug__":Str))=false:=by decide)(he:starEach (a::es) X.env=(false,eval a X.env)::starEach es X.env:=by rfl)(hpl:(backTo pos (starEach es X.env)).any (·.1)=false:=by rfl) :
  PXt X O T (.Call (.Name x p) (a::es) [] pos) (fun ρ=>(fs ρ).bind F):=by
 obtain⟨f,fd,h1,h2,h3,h4,_⟩:=id (G)
 intro pins s σ H Q I h
 obtain⟨hid,H0,ρ,ow,r,E,hf,q⟩:=h
 obtain⟨ds,g1,g2⟩:=bind_some hf
 refine wpAny_Call_Name_kw (ld_glob I hg h2 ?_ hdb)
 refine PySem.W.callWith_K (h₀:=X.base) I.ok.mod.kin h3 (thn (ha pos pins s σ H (fun vs H1=>Same H H1∧DenL X.K (del H1 (uni hid ow)) vs ds) I ⟨hid,H0,ρ,ow,ds,E,g1,fun vs H1 s1 D1=>⟨s1,D1⟩⟩) fun us s1 ⟨vs,H1,I1,r1,sm,D1⟩=>⟨I1.kIn,?_⟩) he hpl
 refine run_fnX (E:=fun cv od H'=>∃ x C,r=.exc x∧cv=.ref C∧Same H1 H'∧XIs X.K (del H' (uni hid ow)) C od x) h1 hr h4 hex I1 r1 ⟨uni hid ow,ds,r,(E.mono sm).uniL,D1,g2,?_⟩ fun s2 H2 a C od I2 fl ⟨x,C',hrx,hC,sm2,hx⟩=>?_
 ·cases r with
  | ret d=>
   intro v as H2 s2 n2 D2
   refine q v as H2 (sm.trans s2) (fun p hp=>sm.free (n2 p hp)) (D2.mono (del_sub fun b z=>?_) fun p _ o e=>e)
   rcases z with z | z
   ·exact .inl (.inl z)
   ·rcases List.mem_append.mp z with z | z
    ·exact .inr z
    ·exact .inl (.inr z)
  | exc x=>exact fun C od H2 s2 hx=>⟨x,C,rfl,rfl,s2,hx⟩
 ·cases hC
  subst hrx
  exact q pins s2 H2 a C od I2 (sm.trans sm2) fl hx
end
inductive OutX where
 | nx (ρ:Rho) | rt (d:PyData) | bk (ρ:Rho) | ct (ρ:Rho) | ex (x:PyData) (ρ:Rho)
def ThenX (X:Cx)(O:Ow)(hid:Addr->Prop)(H0 G:Hp)(D:Ends):OutX->Prop
 | .nx ρ'=>∀ σ' H' ow',Same G (del H' (uni hid ow'))->EnvOk X.K O hid H0 σ' H' ρ' ow'->D.nx σ' H'
 | .bk ρ'=>∀ σ' H' ow',Same G (del H' (uni hid ow'))->EnvOk X.K O hid H0 σ' H' ρ' ow'->D.bk σ' H'
 | .ct ρ'=>∀ σ' H' ow',Same G (del H' (uni hid ow'))->EnvOk X.K O hid H0 σ' H' ρ' ow'->D.ct σ' H'
 | .rt d=>∀ v as H',Same H0 H'->(∀ p∈as,H0 p=none)->DenO X.K H' (del H' (uni hid as)) O.r v d as->D.rt v H'
 | .ex x ρ'=>∀ pins s' σ' H' ow' a C od,Inv X pins σ' H' s'->Same G (del H' (uni hid ow'))->EnvOk X.K O hid H0 σ' H' ρ' ow'->Fly X pins H' s' a C od->XIs X.K (del H' (uni hid ow')) C od x->X.xe (.ref a) s'
def tPx (X:Cx)(O:Ow)(F:Rho->Option OutX):TS:=fun D σ H=>At5 X.K O F σ H fun hid H0 ρ ow o=>ThenX X O hid H0 (del H (uni hid ow)) D o
abbrev PSx (X:Cx)(O:Ow)(st:Stmt)(F:Rho->Option OutX):Prop:=PS X st (tPx X O F)
abbrev PSsx (X:Cx)(O:Ow)(st:List Stmt)(F:Rho->Option OutX):Prop:=PSs X st (tPx X O F)
theorem ThenX.weak {X:Cx}{O:Ow}{hid:Addr->Prop}{H0 G G':Hp}{D:Ends}{o:OutX}(s:Same G G')(h:ThenX X O hid H0 G D o):ThenX X O hid H0 G' D o:=by
 cases o with
 | nx ρ=>exact fun σ' H' ow' s' E=>h σ' H' ow' (s.trans s') E
 | bk ρ=>exact fun σ' H' ow' s' E=>h σ' H' ow' (s.trans s') E
 | ct ρ=>exact fun σ' H' ow' s' E=>h σ' H' ow' (s.trans s') E
 | rt d=>exact h
 | ex x ρ=>exact fun pins s1 σ' H' ow' a C od I s' E f q=>h pins s1 σ' H' ow' a C od I (s.trans s') E f q
def Out.x:Out->OutX
 | .nx ρ=>.nx ρ
 | .rt d=>.rt d
 | .bk ρ=>.bk ρ
 | .ct ρ=>.ct ρ
def forXD (S:PyData->Rho->Option Rho)(F:Rho->Option OutX):List PyData->Rho->Option OutX
 | [],ρ=>some (.nx ρ)
 | d::r,ρ=>(S d ρ).bind fun ρ1=>(F ρ1).bind fun o=>match o with
  | .nx ρ2=>forXD S F r ρ2
  | .ct ρ2=>forXD S F r ρ2
  | .bk ρ2=>some (.nx ρ2)
  | .rt v=>some (.rt v)
  | .ex x ρ2=>some (.ex x ρ2)
def dropX (ρ:Rho)(x:Option RX):Option OutX:=x.map fun r=>match r with
 | .ret _=>.nx ρ
 | .exc x=>.ex x ρ
section
variable {X:Cx}{O:Ow}{st:Stmt}{rest:List Stmt}{F G:Rho->Option OutX}{e:Expr}{f:Rho->Option RX}{pos:Pos}{T:Ty}
theorem xx_nil:PSsx X O [] (fun ρ=>some (.nx ρ)):=pss_nil.imp fun D σ H zpat=>by
 obtain⟨hid,H0,ρ,ow,o,E,hf,k⟩:=zpat
 obtain rfl:=Option.some.inj hf
 exact k σ H ow (Same.refl _) E
theorem xx_one (h1:PSx X O st F):PSsx X O [st] F:=pss_one h1
theorem xx_if {c:Expr}{a b:List Stmt}{ft:Rho->Option Bool}(hc:PTv X.nox O c ft)(ha:PSsx X O a F)(hb:PSsx X O b G):PSx X O (.If c a b pos) (fun ρ=>condO (ft ρ) (F ρ) (G ρ)):=(ps_if hc.nox ha hb).imp fun D σ H zpat=>by
 obtain⟨hid,H0,ρ,ow,o,E,hf,k⟩:=zpat
 obtain⟨c,g1,g2⟩:=bind_some hf
 refine⟨hid,H0,ρ,ow,c,E,g1,fun H' s=>?_⟩
 cases c with
 | true=>rw[if_pos rfl] at g2 ⊢;exact⟨hid,H0,ρ,ow,o,E.mono s,g2,k.weak (del_mono s _)⟩
 | false=>rw[if_neg Bool.false_ne_true] at g2 ⊢;exact⟨hid,H0,ρ,ow,o,E.mono s,g2,k.weak (del_mono s _)⟩
theorem xx_expr (h:PXt X O T e f)(hs:swapsWith e none pos.line X.env=pure false:=by rfl):PSx X O (.Expr e pos) (fun ρ=>dropX ρ (f ρ)):=(ps_expr h hs).imp fun D σ H zpat=>by
 obtain⟨hid,H0,ρ,ow,o,E,hf,k⟩:=zpat
 obtain⟨r,g1,rfl⟩:=map_some hf
 refine⟨hid,H0,ρ,ow,r,E,g1,?_⟩
 cases r with
 | ret d=>exact fun v as H' s n _=>k σ H' ow (del_mono s _) (E.mono s)
 | exc x=>exact fun pins s' H' a C od I s fl hx=>k pins s' σ H' ow a C od I (del_mono s _) (E.mono s) fl hx
end
end L2
namespace L2
variable [Reg]
section
variable {X:Cx}{O:Ow}{st:Stmt}{rest:List Stmt}{F G:Rho->Option OutX}{e:Expr}{f:Rho->Option RX}{pos:Pos}{T:Ty}
inductive FIx (K:PySem.W.Frag)(O:Ow)(hid:Addr->Prop)(H0 G1:Hp)(S:PyData->Rho->Option Rho)(F:Rho->Option OutX)(ds:List PyData)(out:OutX)(i m:Nat)(τ:St)(H2:Hp):Prop
 | mk (ρ2:Rho) (ow2:List Addr) (left:List PyData) (hM:Mid ds i m left) (E2:EnvOk K O hid H0 τ H2 ρ2 ow2) (s2:Same G1 (del H2 (uni hid ow2))) (hr:forXD S F left ρ2=some out):FIx K O hid H0 G1 S F ds out i m τ H2
def bmVE:List Value:=[.type "ValueError",.type "Exception",.type "BaseException",.type "object"]
inductive XNo (K:PySem.W.Frag)(C:Addr):Prop
 | mk (nm q:Str) (N:Addr) (bs bm:List Value) (hdct:Bool) (sn:List Str) (sub:List Value) (ab:Bool) (col:Option Bool) (dd:Option Addr) (k0 k1 k2 k3 k5:Option Value) (ob:Obj) (l:K.lookup C=some ob) (eo:ob=excClassObj nm q C N bs bm hdct sn sub ab col dd k0 k1 k2 k3 k5 "ValueError.__new__") (t:PySem.W.tailIn K bmVE bm=true) (o:PySem.W.nsOkIn K N=true) (i:PySem.W.nsIn K N "__init__"=some none):XNo K C
theorem XNo.of {K:PySem.W.Frag}{C:Addr}{nm q:Str}{N:Addr}{bs bm:List Value}{hdct:Bool}{sn:List Str}{sub:List Value}{ab:Bool}{col:Option Bool}{dd:Option Addr}{k0 k1 k2 k3 k5:Option Value}{ob:Obj}(l:K.lookup C=some ob)(eo:ob=excClassObj nm q C N bs bm hdct sn sub ab col dd k0 k1 k2 k3 k5 "ValueError.__new__")(t:PySem.W.tailIn K bmVE bm=true)(o:PySem.W.nsOkIn K N=true)(i:PySem.W.nsIn K N "__init__"=some none):XNo K C:=⟨nm,q,N,bs,bm,hdct,sn,sub,ab,col,dd,k0,k1,k2,k3,k5,ob,l,eo,t,o,i⟩
structure XCls (X:Cx)(x:Str)(C:Addr):Prop where
 gl:Gl X x
 mg:X.mg x=some (.ref C)
 ns:PySem.W.nsIn X.K mainGlobals x=some (some (.ref C))
 ex:XNo X.K C
inductive ExcObj (h:Heap)(C:Addr):Prop
 | mk (nm q:Str) (N:Addr) (bs bm:List Value) (hdct:Bool) (sn:List Str) (sub:List Value) (ab:Bool) (col:Option Bool) (dd:Option Addr) (k0 k1 k2 k3 k5:Option Value) (mN:Str->Option Value) (hC:h.get? C=some (excClassObj nm q C N bs bm hdct sn sub ab col dd k0 k1 k2 k3 k5 "ValueError.__new__")) (hN:h.Ns N mN) (hi:mN "__init__"=none) (T:OwnTail h bmVE bm):ExcObj h C
theorem exc_obj {K:PySem.W.Frag}{h:Heap}{C:Addr}(Xk:K.In h)(q:XNo K C):ExcObj h C:=by
 obtain⟨nm,q,N,bs,bm,hdct,sn,sub,ab,col,dd,k0,k1,k2,k3,k5,ob,l,rfl,t,o,i⟩:=q
 exact⟨nm,q,N,bs,bm,hdct,sn,sub,ab,col,dd,k0,k1,k2,k3,k5,_,Xk _ _ l,.of_isNs (PySem.W.isNs_of_in Xk o),PySem.W.nsMap_none_of_in Xk o i,PySem.W.tail_of_in Xk t⟩
theorem ps_raise0 {x:Str}{C:Addr}{np cpos:Pos}(hc:X.calm=true)(hex:X.ex=[])(c:XCls X x C)(hdb:(x==("__debug__":Str))=false:=by decide) :
  PS X (.Raise (some (.Call (.Name x np) [] [] cpos)) none pos) (fun D σ H=>∀ pins s' a,Inv X pins σ H s'->Fly X pins H s' a C none->X.xe (.ref a) s'):=by
 intro pins s σ H D I h
 obtain⟨nm,q,N,bs,bm,hdct,sn,sub,ab,col,dd,k0,k1,k2,k3,k5,mN,hC,hN,hni,T⟩:=exc_obj I.kIn c.ex
 refine wpAny_Raise_call_subU (C:=C) (nm:=nm) (q:=q) (N:=N) (bs:=bs) (bm:=bm) (hdct:=hdct) (sn:=sn) (sub:=sub) (ab:=ab) (col:=col) (dd:=dd) (k0:=k0) (k1:=k1) (k2:=k2) (k3:=k3) (k5:=k5)
  F.excBase_ValueError (by decide) F.excBase_ValueError (mN:=mN) (T.hasType F.excBase_ValueError.hasBase) (I.ok.hd hc) rfl hni (ld_glob I c.gl c.mg ⟨rfl,?_⟩ hdb)
 refine evalArgs_empty ⟨rfl,Nat.zero_le _,hC,hN,T,fun h' a hm=>?_⟩
 have I':Inv X pins σ H { s with heap:=h' }:=I.kept (t':=s.toks) hm.keeps
 obtain⟨t,ht,_,_⟩:=hm.there
 obtain⟨n1,n2,n3⟩:=I.none_of hex hm.new
 exact h pins _ a I' ⟨⟨⟨_,_,ht,rfl,rfl,rfl,.inl rfl⟩,n1,n2⟩,n3⟩
theorem xx_raise0 {x:Str}{C:Addr}{np cpos:Pos}(hc:X.calm=true)(hex:X.ex=[])(c:XCls X x C)(hdb:(x==("__debug__":Str))=false:=by decide) :
  PSx X O (.Raise (some (.Call (.Name x np) [] [] cpos)) none pos) (fun ρ=>some (.ex (excD x []) ρ)):=(ps_raise0 hc hex c hdb).imp fun D σ H ⟨hid,H0,ρ,ow,o,E,hf,k⟩ pins s' a I fl=>by
 cases hf
 exact k pins s' σ H ow a C none I (Same.refl _) E fl ⟨x,[],[],rfl,c.ns,.inl ⟨rfl,rfl⟩,.nil⟩
end
def outX:Option OutX->Option RX
 | some (.rt r)=>some (.ret r)
 | some (.nx _)=>some (.ret .none)
 | some (.ex x _)=>some (.exc x)
 | _=>none
def runX (n m:Nat)(B:Rho->Option OutX)(ds:List PyData):Option RX:=if ds.length=n then outX (B (ds.map some++List.replicate m none)) else none
theorem fn_autoX {P:Program}{w:World}{K:PySem.W.Frag}{mg:Str->Option Value}{base:Heap}{x qual:Str}{st:Stmt}{f:Addr}{fd:FuncData}{N ps:List Str}{k:Nat}(O:Ow)(F:Fun K x qual st f fd)(S:FnScope N ps (defScope st))
  (hO:∀ i∈O.s.map (·.1),ps.length≤i) (B:Rho->Option OutX)
  (hbody:∀ (cdv:Value),CdOk K f cdv->∀ (A:Around) (outer:List Env) (s:Shared) (H:Hp) (E:XK),Room k (A.deeper (envOfC qual (defScope st) s.heap.objs.size f cdv)) ->
   PSsx (cxOf (CXe P w) P w K mg base N qual (defScope st) f cdv A outer s H E) O (defBody st) B) :
  FnOk P w K mg base (CXe P w) (k+1) f fd ps (spX K O.r (runX ps.length (N.length - ps.length) B)):=by
 obtain⟨a1,a2,a3,a4,a5,a6,cdv,a7,a8,e,lk,hcd⟩:=F.ex
 subst e
 refine fn_of lk hcd S (fun vs H Q E h=>?_) (fun A outer s H vs Q E hr h=>?_)
 ·obtain⟨hid,ds,r,_,D,hf,_⟩:=id (h)
  rw[D.length]
  unfold runX at hf
  split at hf
  ·assumption
  ·cases hf
 ·obtain⟨hid,ds,r,hh,D,hf,q⟩:=id (h)
  refine⟨_,hbody cdv ⟨_,_,_,_,lk,rfl⟩ A outer s H E hr,?_⟩
  have hdl:=D.length
  unfold runX at hf
  split at hf
  case isFalse=>cases hf
  rename_i hpl
  rw[← hpl] at hf
  have E0:EnvOk K O hid H (start N vs) H (ds.map some++List.replicate (N.length - ds.length) none) []:=start_env D hpl hO hh
  cases hB:B (ds.map some++List.replicate (N.length - ds.length) none) with
  | none=>rw[hB] at hf;cases hf
  | some o=>
   rw[hB] at hf
   refine⟨hid,H,_,[],o,E0,hB,?_⟩
   cases o with
   | rt d=>cases hf;exact fun v as H' s' n Dv=>q v as H' s' n Dv
   | nx ρ'=>cases hf;exact fun σ' H' ow' s' E'=>q .non [] H' E'.baseS (fun p hp=>by cases hp) .non
   | bk ρ'=>cases hf
   | ct ρ'=>cases hf
   | ex x ρ'=>
    cases hf
    exact fun pins s' σ' H' ow' a C od I s2 E' fl hx=>cx_leave I fl.c (q C od H' E'.baseS (hx.mono (del_uni _ _ _)))
end L2
namespace L2
variable [Reg]
abbrev Cx.wp (X:Cx)(pn:List (Addr×Obj))(W:Value->Shared->Prop):Cx:={ X with pn:=pn,xe:=W }
abbrev Cx.mark (X:Cx)(pn:List (Addr×Obj))(a:Addr):Cx:={ X with A:=X.A.mark (some (.ref a)),calm:=false,pn:=pn,xe:=fun _ _=>False }
section
variable {X:Cx}{pins pins':List (Addr×Obj)}{σ:St}{H:Hp}{s:Shared}{W:Value->Shared->Prop}{a:Addr}
theorem Inv.wp (I:Inv X pins σ H s)(W:Value->Shared->Prop):Inv (X.wp (X.pn++pins) W) [] σ H s:=
 ⟨⟨I.ok.mod,I.ok.kind,I.ok.glob,I.ok.blt,I.ok.above,I.ok.inj,I.ok.has,I.ok.cab,I.ok.hd,I.ok.frames,I.ok.stk,I.ok.exf,I.ok.bs,I.ok.bsz,I.ok.noex,I.ok.exfs,I.ok.funs,I.ok.frf,I.ok.tabs⟩,I.os,I.bare,I.base,I.loc,I.cell,I.free,I.freeC,fun p hp=>I.pin p (by simpa using hp),I.hok,I.len⟩
theorem Inv.unwp (I:Inv (X.wp (X.pn++pins) W) pins' σ H s):Inv X pins σ H s:=
 ⟨⟨I.ok.mod,I.ok.kind,I.ok.glob,I.ok.blt,I.ok.above,I.ok.inj,I.ok.has,I.ok.cab,I.ok.hd,I.ok.frames,I.ok.stk,I.ok.exf,I.ok.bs,I.ok.bsz,I.ok.noex,I.ok.exfs,I.ok.funs,I.ok.frf,I.ok.tabs⟩,I.os,I.bare,I.base,I.loc,I.cell,I.free,I.freeC,fun p hp=>I.pin p (List.mem_append_left _ hp),I.hok,I.len⟩
theorem Inv.mark (I:Inv X pins σ H s)(a:Addr):Inv (X.mark (X.pn++pins) a) [] σ H s:=
 ⟨⟨I.ok.mod,I.ok.kind,I.ok.glob,I.ok.blt,I.ok.above,I.ok.inj,I.ok.has,I.ok.cab,(fun z=>nomatch z),I.ok.frames,I.ok.stk,I.ok.exf,I.ok.bs,I.ok.bsz,I.ok.noex,I.ok.exfs,I.ok.funs,I.ok.frf,I.ok.tabs⟩,I.os,I.bare,I.base,I.loc,I.cell,I.free,I.freeC,fun p hp=>I.pin p (by simpa using hp),I.hok,I.len⟩
theorem Inv.unmark (hc:X.calm=true->X.A.handled=none)(I:Inv (X.mark (X.pn++pins) a) pins' σ H s):Inv X pins σ H s:=
 ⟨⟨I.ok.mod,I.ok.kind,I.ok.glob,I.ok.blt,I.ok.above,I.ok.inj,I.ok.has,I.ok.cab,hc,I.ok.frames,I.ok.stk,I.ok.exf,I.ok.bs,I.ok.bsz,I.ok.noex,I.ok.exfs,I.ok.funs,I.ok.frf,I.ok.tabs⟩,I.os,I.bare,I.base,I.loc,I.cell,I.free,I.freeC,fun p hp=>I.pin p (List.mem_append_left _ hp),I.hok,I.len⟩
theorem SP.unwp {D:Ends}{f:Flow}{s':Shared}(h:SP (X.wp (X.pn++pins) W) pins' D f s'):SP X pins D f s':=by
 cases f with
 | next=>obtain⟨σ',H',I,q⟩:=h;exact⟨σ',H',I.unwp,q⟩
 | brk=>obtain⟨σ',H',I,q⟩:=h;exact⟨σ',H',I.unwp,q⟩
 | cont=>obtain⟨σ',H',I,q⟩:=h;exact⟨σ',H',I.unwp,q⟩
 | ret u=>obtain⟨v,σ',H',I,r,q⟩:=h;exact⟨v,σ',H',I.unwp,r,q⟩
theorem Inv.land {oe:Obj}{vs:Array Value}{h':Heap}{C:Addr}{od:Option Addr}{fl:Value}(I:Inv X pins σ H s)(F:Fly X pins H s a C od)(he:s.heap.get? a=some oe)(hd:oe.data=.fields vs)(n:Noted (frs X.stack) a oe fl s.heap h') :
  Inv X pins σ (upd H a (fz a (oe.mapFields (·.setIfInBounds 1 (.ref s.heap.objs.size))))) { s with heap:=h' }:=by
 have nL:X.env.locals≠a:=fun z=>by
  obtain⟨m,⟨o,es,ep,ho,hd',_⟩,_⟩:=I.loc
  rw[z,he] at ho;cases ho;rw[hd'] at hd;cases hd
 have nC:∀ x c,X.env.cells.lookup x=some c->c≠a:=fun x c e z=>by
  obtain⟨v,o,ho,hd'⟩:=I.cell x c e
  rw[z,he] at ho;cases ho;rw[hd'] at hd;cases hd
 have n0:∀ b o,X.s₀.heap.get? b=some o->b≠a:=fun b o e z=>by rw[z,F.c.new] at e;cases e
 have nH:∀ b u,H b=some u->b≠a:=fun b u e z=>by rw[z,F.c.fre] at e;cases e
 have nfs:∀ b,b≠X.env.locals->b∉X.fs->b∉frs X.stack:=fun b h1 h2 z=>(List.mem_cons.mp (I.stkSub b z)).elim h1 h2
 have keepT:∀ c v,s.heap.get? c=some v->H c≠none->h'.get? c=some v:=fun c v q1 q2=>n.keep c v (fun z=>q2 (by rw[z];exact F.c.fre)) (fun z=>q2 (I.stkFree c z)) q1
 have cellK:∀ x c,X.env.cells.lookup x=some c->∀ v,s.heap.IsCell c v->h'.IsCell c v:=fun x c e v zpat=>by
  obtain⟨o,ho,hd⟩:=zpat
  obtain⟨sl,q⟩:=n.slot c o (nC x c e) ho
  exact⟨_,q,hd⟩
 refine⟨I.ok,I.os,I.bare,⟨fun b o e nn hb hx=>?_,fun b o e nn hb hx=>?_,fun b o e nn hx=>?_,fun b o e hx=>?_,fun b xs e=>?_,fun b o xs e=>?_,fun b ps e=>?_,fun b e=>?_⟩,?_,fun x c e=>?_,?_,fun x c e=>?_,fun p hp=>?_,fun b u e=>?_,I.len⟩
 ·have neL:b≠X.env.locals:=Nat.ne_of_lt (Nat.lt_of_lt_of_le (Heap.lt_size e) I.ok.above)
  exact n.keep b o (n0 b o e) (nfs b neL hb) (I.base.keep b o e nn hb hx)
 ·obtain⟨sl,e1⟩:=I.base.slot b o e nn hb hx
  obtain⟨sl',e2⟩:=n.slot b _ (n0 b o e) e1
  exact⟨sl',e2⟩
 ·rw[upd_ne (n0 b o e)];exact I.base.free b o e nn hx
 ·obtain⟨o',e1⟩:=I.base.there b o e hx
  obtain⟨sl',e2⟩:=n.slot b _ (n0 b o e) e1
  exact⟨_,e2⟩
 ·have q:=I.base.tups b xs e;rw[upd_ne (nH b _ q)];exact q
 ·have q:=I.base.frzs b o xs e;rw[upd_ne (nH b _ q)];exact q
 ·obtain⟨more,q⟩:=I.base.tbls b ps e
  exact⟨more,by rw[upd_ne (nH b _ q)];exact q⟩
 ·have q:=I.base.tabs b e;rw[upd_ne (nH b _ q)];exact q
 ·obtain⟨m,hn,hl⟩:=I.loc
  obtain⟨o,es,ep,ho,r⟩:=id (hn)
  obtain⟨sl,q⟩:=n.slot _ o nL ho
  refine⟨m,⟨_,es,ep,q,r⟩,fun i x v e1 e2 e3=>?_⟩
  obtain⟨u,ru,l⟩:=hl i x v e1 e2 e3
  refine⟨u,ru,?_⟩
  rcases l with l | ⟨k,c,e,z⟩
  ·exact .inl l
  ·exact .inr ⟨k,c,e,cellK x c e _ z⟩
 ·obtain⟨v,z⟩:=I.cell x c e
  exact⟨v,cellK x c e v z⟩
 ·rw[upd_ne nL];exact I.free
 ·rw[upd_ne (nC x c e)];exact I.freeC x c e
 ·obtain⟨e,nn,ne,nf,d⟩:=I.pin p hp
  have npa:=F.pin p hp
  exact⟨n.keep p.1 p.2 npa (nfs p.1 ne nf) e,by rw[upd_ne npa];exact nn,ne,nf,d⟩
 ·by_cases hb:b=a
  ·subst hb
   rw[upd_same] at e;cases e
   exact fz_ok n.exc
  ·rw[upd_ne hb] at e
   refine (I.hok b u e).stay (fun c v hc q1=>keepT c v q1 ?_) (fun c q=>?_) (fun c xs q=>?_) fun c o u vs hdv q=>?_
   ·rcases hc with rfl | hc
    ·rw[e];simp
    ·rw[hc];simp
   ·rw[upd_ne (nH c _ q)];exact q
   ·rw[upd_ne (nH c _ q)];exact q
   ·rw[upd_ne (nH c _ q)];exact q
theorem Inv.gone {i:Nat}{n:Str}{h':Heap}{v:Option Value}{m:Str->Option Value}{t:Nat}(I:Inv X pins σ H s)(hN:X.N.Nodup)(hi:X.N[i]?=some n)(hk:X.env.kindOf n=some .local)
  (hm:s.heap.Ns X.env.locals m) (hl:∀ (j:Nat) (x:Str) (w:V),X.N[j]?=some x->σ[j]?=some (some w)->Vis X.env.scope x->∃ u,RelV w u∧Look X.env s.heap m x u)
  (hn:h'.Ns X.env.locals (fun x=>if x=n then v else m x)) (hs:Heap.SameBut X.env.locals s.heap h'):Inv X pins (σ.set i none) H { s with heap:=h',toks:=t }:=by
 obtain⟨oL,_,_,hoL,_⟩:=id hm
 have kp:∀ b o,b≠X.env.locals->s.heap.get? b=some o->h'.get? b=some o:=fun b o hb q=>(hs.2 b hb).trans q
 refine⟨I.ok,I.os,I.bare,⟨fun b o e nn hb hx=>?_,fun b o e nn hb hx=>?_,I.base.free,fun b o e hx=>?_,I.base.tups,I.base.frzs,I.base.tbls,I.base.tabs⟩,⟨_,hn,fun j y w e1 e2 e3=>?_⟩,fun x c e=>?_,I.free,I.freeC,fun p hp=>?_,fun b u e=>?_,by simpa using I.len⟩
 ·exact kp b o (Nat.ne_of_lt (Nat.lt_of_lt_of_le (Heap.lt_size e) I.ok.above)) (I.base.keep b o e nn hb hx)
 ·obtain⟨sl,e1⟩:=I.base.slot b o e nn hb hx
  exact⟨sl,kp b _ (Nat.ne_of_lt (Nat.lt_of_lt_of_le (Heap.lt_size e) I.ok.above)) e1⟩
 ·obtain⟨o',e1⟩:=I.base.there b o e hx
  exact⟨o',kp b _ (Nat.ne_of_lt (Nat.lt_of_lt_of_le (Heap.lt_size e) I.ok.above)) e1⟩
 ·have hji:j≠i:=fun z=>by
   subst z
   have hlt:j<σ.length:=by have:=(List.getElem?_eq_some_iff.mp e2).1;simpa using this
   rw[List.getElem?_set_self hlt] at e2
   cases e2
  rw[List.getElem?_set_ne (Ne.symm hji)] at e2
  obtain⟨u,r,q⟩:=hl j y w e1 e2 e3
  refine⟨u,r,?_⟩
  have hne:y≠n:=fun e=>hji (nodup_ix hN e1 (e▸hi))
  rcases q with ⟨k,e⟩ | ⟨k,c,e,z⟩
  ·exact .inl ⟨k,by simp[hne,e]⟩
  ·exact .inr ⟨k,c,e,z.sameBut hs (I.cne y c e)⟩
 ·obtain⟨w',z⟩:=I.cell x c e
  exact⟨w',z.sameBut hs (I.cne x c e)⟩
 ·obtain⟨e,nn,ne,nf,d⟩:=I.pin p hp
  exact⟨kp p.1 p.2 ne e,nn,ne,nf,d⟩
 ·have nbl:∀ c u,H c=some u->c≠X.env.locals:=fun c u q z=>by rw[z,I.free] at q;cases q
  refine (I.hok b u e).stay (fun c v hc q1=>kp c v ?_ q1) (fun _ q=>q) fun _ _ q=>q
  rcases hc with rfl | hc
  ·exact nbl _ _ e
  ·exact nbl _ _ hc
end
theorem EnvOk.unset {K:PySem.W.Frag}{O:Ow}{hid:Addr->Prop}{H0 H:Hp}{σ:St}{ρ:Rho}{ow:List Addr}(e:EnvOk K O hid H0 σ H ρ ow)(i:Nat):EnvOk K O hid H0 (σ.set i none) H (ρ.set i none) ow:=by
 have two:∀ {j:Nat} {d:PyData},(ρ.set i none)[j]?=some (some d)->j≠i∧ρ[j]?=some (some d):=fun {j d} q=>by
  by_cases hj:j=i
  ·subst hj
   have hl:j<ρ.length:=by have:=(List.getElem?_eq_some_iff.mp q).1;simpa using this
   rw[List.getElem?_set_self hl] at q
   cases q
  ·rw[List.getElem?_set_ne (Ne.symm hj)] at q
   exact⟨hj,q⟩
 refine⟨by simpa using e.len,e.base,fun j x hj q=>?_,?_,e.isl,e.ishL,e.emp⟩
 ·obtain⟨hne,z⟩:=two q
  obtain⟨w,a,b⟩:=e.val j x hj z
  exact⟨w,by rw[List.getElem?_set_ne (Ne.symm hne)];exact a,b⟩
 ·obtain⟨A,a1,a2,a3⟩:=e.own
  refine⟨A,fun j t x hj q=>?_,a2,a3⟩
  obtain⟨hne,z⟩:=two q
  obtain⟨w,a,b⟩:=a1 j t x hj z
  exact⟨w,by rw[List.getElem?_set_ne (Ne.symm hne)];exact a,b⟩
def Out.unset (i:Nat):Out->Out
 | .nx ρ=>.nx (ρ.set i none)
 | .bk ρ=>.bk (ρ.set i none)
 | .ct ρ=>.ct (ρ.set i none)
 | .rt d=>.rt d
def clsD:PyData->Str
 | .dict [(.bool true,.str c),_]=>c
 | _=>""
def tryF (ie:Nat)(caught:List Str)(Hd:Rho->Option Out)(o:Option OutX):Option Out:=o.bind fun o=>match o with
 | .nx ρ=>some (.nx ρ)
 | .rt d=>some (.rt d)
 | .bk ρ=>some (.bk ρ)
 | .ct ρ=>some (.ct ρ)
 | .ex x ρ=>if caught.contains (clsD x)=true then (Hd (ρ.set ie (some x))).map (Out.unset ie) else none
section
variable {X:Cx}{O:Ow}{body suite:List Stmt}{b₀:Stmt}{n tn:Str}{ie:Nat}{np hpos pos:Pos}{F:Rho->Option OutX}{Hd:Rho->Option Out}{PC:Addr}{caught:List Str}
theorem s_try (hc:X.calm=true)(hex:X.ex=[])(hst:X.stack=X.env::X.outer)(hfr:X.env.frame=some X.env.locals)(hN:X.N.Nodup)(hi:X.N[ie]?=some n)(hk:X.env.kindOf n=some .local)(hfn:X.fn n=true∨X.env.scope.names.lookup n=some .local)(hO:O.s.lookup ie=none)
  (hg:Gl X tn) (hm:X.mg tn=some (.ref PC)) (hcl:∀ cls∈caught,∀ C,PySem.W.nsIn X.K mainGlobals cls=some (some (.ref C))->PySem.W.exmOne X.K (.ref C) (.ref PC)=some true)
  (hb:∀ pn W,PSsx (X.wp pn W) O body F) (hh:∀ pn a,PSsv (X.mark pn a) O (b₀::suite) Hd) (hdb:(tn==("__debug__":Str))=false:=by decide) :
  PSv X O (.Try body [.ExceptHandler (some (.Name tn np)) (some n) (b₀::suite) hpos] [] [] pos) (fun ρ=>tryF ie caught Hd (F ρ)):=by
 intro pins s σ H D I h
 obtain⟨hid,H0,ρ,ow,out,E,hf,k⟩:=h
 obtain⟨o,g1,g2⟩:=bind_some hf
 have hcls:(X.env.scope.kind==.class||(X.env.scope.kind==.module&&X.env.locals != X.env.globals))=false:=by rw[I.ok.kind];rfl
 refine wpAny_Try_except ?_
 have key:∀ f s',SP X pins D f s'->(match f with | .next=>wpAny (model X.prog X.w) X.A (execs [] X.env) (SP X pins D) X.xe s' | f=>SP X pins D f s'):=fun f s' q=>by
  cases f with
  | next=>exact wpAny_execs_nil q
  | _=>exact q
 refine wpAny_mono (hb (X.pn++pins) _ [] s σ H D (I.wp _) ⟨hid,H0,ρ,ow,o,E,g1,?_⟩) (fun f s' q=>key f s' q.unwp) fun _ _ z=>z
 cases o with
 | nx ρ1=>cases g2;exact k
 | rt d=>cases g2;exact k
 | bk ρ1=>cases g2;exact k
 | ct ρ1=>cases g2;exact k
 | ex x ρ1=>
  simp only at g2
  split at g2
  case isFalse=>cases g2
  rename_i hca
  obtain⟨oh,g3,rfl⟩:=map_some g2
  intro pins' s1 σ1 H1 ow1 a C od I1w sm E1 fl hx
  have I1:Inv X pins σ1 H1 s1:=I1w.unwp
  have fl1:Fly X pins H1 s1 a C od:=⟨fl.c,fun p hp=>fl.pin p (List.mem_append_left _ hp)⟩
  obtain⟨oe,vs,he,hcl',hdi,hd,tr⟩:=fl1.c.ex
  revert hx
  refine fun zqq=>?_;obtain⟨cls,fv,fd,zq3,hns,hfv,hDf⟩:=zqq
  subst zq3
  have hst1:=I1.stack
  rw[hst] at hst1
  have hfrm:=I1.ok.frames
  rw[hst] at hfrm
  refine note_exact (L:=X.env.locals) hfrm hst1 hfr he hd tr fun h1 n1=>?_
  have hfs:∀ b∈(X.env::X.outer).filterMap (·.frame),b<s1.heap.objs.size:=fun b hb=>by
   obtain⟨_,o,ho,_⟩:=hst1.mem hb
   exact Heap.lt_size ho
  refine down_exact (Heap.lt_size he) hd tr.sz n1 hfs fun h2 n2=>?_
  have n2':Noted (frs X.stack) a oe .none s1.heap h2:=by rw[hst];exact n2
  have I2:=I1.land fl1 he hd n2'
  have hfresh:H1 a=none:=fl1.c.fre
  have E2:=E1.mono (same_new (o:=fz a (oe.mapFields (·.setIfInBounds 1 (.ref s1.heap.objs.size)))) hfresh)
  have Im:=I2.mark a
  -- the class
  have hmem:cls∈caught:=by
   have:caught.contains cls=true:=hca
   exact List.contains_iff_mem.mp this
  have hxm:=hcl cls hmem C hns
  have hty:PySem.W.Looks (model X.prog X.w) h2 (typeOf (.ref a)) (.ref C):=by
   have hc2:(oe.mapFields (·.setIfInBounds 1 (.ref s1.heap.objs.size))).cls=.ref C:=by rw[Obj.cls_mapFields];exact hcl'
   exact hc2▸(PySem.W.Looks.ld n2.exc).andThen .now
  have hmat:=PySem.W.exm_one I2.kIn hty hxm
  refine wpAny_handleBy_cons (codeAny_handlers_test (ld_glob (pos:=np) Im hg hm ?_ hdb)) (by intro q;cases q)
  refine hmat.at ?_
  show codeAny _ _ (.handlers (.ref a) [.ExceptHandler none (some n) (b₀::suite) hpos] X.env) _ _
  refine codeAny_handlers_suite_as ?_
  obtain⟨oT,ts,t2,t3,t4⟩:=n2.tb
  refine wpAny_setFlight_none n2.exc (Obj.data_mapFields hd _) (by simp[tr.sz]) t2 t3 (Array.getElem?_eq_some_iff.mp t4).1 ?_
  rw[show ({ s1 with heap:=h2 }:Shared).heap.update s1.heap.objs.size (Obj.mapFields (·.setIfInBounds 3 Value.none))=h2 from Heap.update_setField_same h2 _ oT ts 3 .none t2 t3 t4]
  refine store_ok (X:=X.mark (X.pn++pins) a) Im hN hi (.inl hk) (v:=.ref a) rfl (fun s3 I3=>?_) hfn
  have Dx:Den X.K (del (upd H1 a (fz a (oe.mapFields (·.setIfInBounds 1 (.ref s1.heap.objs.size))))) (uni hid ow1)) (.ref a) (excD cls (nmD fv++fd)):=by
   refine .exc ⟨_,C,_,E1.newAt hfresh,by rw[Obj.cls_mapFields];exact hcl',Obj.data_mapFields hd _,hns,?_⟩ (hDf.mono (del_mono (same_new hfresh) _))
   rcases hfv with ⟨hfv,h5⟩ | ⟨dx,h5,h6⟩
   ·exact .inl ⟨hfv,by rw[Obj.dict_mapFields,hdi];exact h5⟩
   ·exact .inr ⟨dx,by rw[Obj.dict_mapFields,hdi];exact h5,del_mono (same_new hfresh) _ _ _ h6⟩
  have Es:=E2.set hO Dx
  let D':Ends:={ nx:=fun σ' H'=>D.nx (σ'.set ie none) H',rt:=D.rt,bk:=fun σ' H'=>D.bk (σ'.set ie none) H',ct:=fun σ' H'=>D.ct (σ'.set ie none) H' }
  have sm2:Same (del H (uni hid ow)) (del (upd H1 a (fz a (oe.mapFields (·.setIfInBounds 1 (.ref s1.heap.objs.size))))) (uni hid ow1)):=sm.trans (del_mono (same_new hfresh) _)
  refine wpAny_mono (hh (X.pn++pins) a [] s3 _ _ D' I3 ⟨hid,H0,_,ow1,oh,Es,g3,?_⟩) (fun f s4 q=>?_) fun _ _ z=>False.elim z
  ·cases oh with
   | nx ρ'=>exact fun σ' H' ow' s' E'=>k _ H' ow' (sm2.trans s') (E'.unset ie)
   | bk ρ'=>exact fun σ' H' ow' s' E'=>k _ H' ow' (sm2.trans s') (E'.unset ie)
   | ct ρ'=>exact fun σ' H' ow' s' E'=>k _ H' ow' (sm2.trans s') (E'.unset ie)
   | rt d=>exact k
  ·have fin:∀ {σ4:St} {H4:Hp},Inv (X.mark (X.pn++pins) a) [] σ4 H4 s4->∀ (P:Shared->Prop),(∀ s5,Inv X pins (σ4.set ie none) H4 s5->P s5)->wpAny (model X.prog X.w) X.A (do bindName X.env n .none;unbindBehindTheSuite X.env n hpos) (fun _ s5=>P s5) X.xe s4:=fun {σ4 H4} I4 P hP=>by
    have I5:Inv X pins σ4 H4 s4:=Inv.unmark I.ok.hd I4
    obtain⟨m,hm4,hl4⟩:=I5.loc
    exact wpAny_nameGoes_keeps hk hm4 hcls fun h' v hn hs=>hP _ (I5.gone hN hi hk hm4 hl4 hn hs)
   show wpAny (model X.prog X.w) X.A (do bindName X.env n .none;unbindBehindTheSuite X.env n hpos) (fun _ s5=>SP X pins D f s5) X.xe s4
   cases f with
   | next=>obtain⟨σ4,H4,I4,q4⟩:=q;exact fin I4 _ fun s5 I5=>⟨_,H4,I5,q4⟩
   | brk=>obtain⟨σ4,H4,I4,q4⟩:=q;exact fin I4 _ fun s5 I5=>⟨_,H4,I5,q4⟩
   | cont=>obtain⟨σ4,H4,I4,q4⟩:=q;exact fin I4 _ fun s5 I5=>⟨_,H4,I5,q4⟩
   | ret u=>obtain⟨v4,σ4,H4,I4,r4,q4⟩:=q;exact fin I4 _ fun s5 I5=>⟨v4,_,H4,I5,r4,q4⟩
end
end L2
namespace L2
variable [Reg]
structure XCD (K:PySem.W.Frag)(mg:Str->Option Value)(x:Str)(C:Addr):Prop where
 mg:mg x=some (.ref C)
 ns:PySem.W.nsIn K mainGlobals x=some (some (.ref C))
 ex:XNo K C
theorem XCD.at {X:Cx}{x:Str}{C:Addr}(c:XCD X.K X.mg x C)(hg:Gl X x):XCls X x C:=⟨hg,c.mg,c.ns,c.ex⟩
def Caught (K:PySem.W.Frag)(exs:List Str)(D:Addr):Prop:=∀ cls∈exs,∀ C,PySem.W.nsIn K mainGlobals cls=some (some (.ref C))->PySem.W.exmOne K (.ref C) (.ref D)=some true
def excKit (K:PySem.W.Frag)(C:Addr):Bool:=
 PySem.W.findIn K (.ref C) "__getattribute__"==some (some (.builtin "BaseException.__getattribute__"))&&PySem.W.findIn K (.ref C) "__getattr__"==some none&&PySem.W.mroIn K C (.type "BaseException")==some true &&
 PySem.W.findIn K (.ref C) "__class__"==some (some (.builtin "object.__class__"))&&PySem.W.specialIn K (.builtin "object.__class__") "__get__"==some (some (.builtin "getset_descriptor.__get__"))&&PySem.W.takesIn K (.builtin "object.__class__")==some true&&PySem.W.mroIn K C (.type "object")==some true&&PySem.W.hasDictIn K C
structure ExcKit (K:PySem.W.Frag)(C:Addr):Prop where
 ga:PySem.W.findIn K (.ref C) "__getattribute__"=some (some (.builtin "BaseException.__getattribute__"))
 gn:PySem.W.findIn K (.ref C) "__getattr__"=some none
 be:PySem.W.mroIn K C (.type "BaseException")=some true
 cl:PySem.W.findIn K (.ref C) "__class__"=some (some (.builtin "object.__class__"))
 sp:PySem.W.specialIn K (.builtin "object.__class__") "__get__"=some (some (.builtin "getset_descriptor.__get__"))
 tk:PySem.W.takesIn K (.builtin "object.__class__")=some true
 ob:PySem.W.mroIn K C (.type "object")=some true
 hd:PySem.W.hasDictIn K C=true
theorem excKit_of {K:PySem.W.Frag}{C:Addr}(h:excKit K C=true):ExcKit K C:=by
 unfold excKit at h
 simp only[Bool.and_eq_true,beq_iff_eq] at h
 obtain⟨⟨⟨⟨⟨⟨⟨h1,h2⟩,h3⟩,h4⟩,h5⟩,h6⟩,h7⟩,h8⟩:=h
 exact⟨h1,h2,h3,h4,h5,h6,h7,h8⟩
section
variable {prog:Program}{w:World}{A:Around}{E:Value->Shared->Prop}{s:Shared}{K:PySem.W.Frag}{x D:Addr}{ox:Obj}{od:Option Obj}{name:Str}{R:Result->Shared->Prop}{Q:Value->Shared->Prop}
theorem exc_entry_cls {tk:Tok}{P:Fin->Shared->Prop}(X:K.In s.heap)(I:PySem.W.InstAt s.heap x ox D od)(k:ExcKit K D)(h:P (.done (.ret (.ref D))) s) :
  wpAny (model prog w) A (Builtin.«object.__getattribute__» ⟨[.ref x,.str "__class__" tk],[]⟩) P E s:=by
 have hf:PySem.W.findObj K D od "__class__"=some (.bind (.builtin "getset_descriptor.__get__") (.builtin "object.__class__")):=by
  obtain⟨cd,hc,_⟩:=PySem.W.any_some k.hd
  unfold PySem.W.findObj
  rw[hc,Option.bind_some,k.cl,Option.bind_some]
  dsimp only
  rw[k.sp,Option.bind_some]
  dsimp only
  rw[k.tk,Option.bind_some]
 obtain⟨hh,g,d,t,os⟩:=s
 have L0:=I.type (M:=model prog w)
 have L1:=PySem.W.looks_find (M:=model prog w) X I hf
 unfold Builtin.«object.__getattribute__»
 refine wpAny_bind (wpAny_pure ?_)
 refine wpAny_bind (wpAny_pure ?_)
 refine wpAny_bind (L0.at (wpAny_bind (L1.at ?_)))
 show wpAny _ _ (Builtin.ObjectAttr.bindTo _ _ _ _) _ _ _
 unfold Builtin.ObjectAttr.bindTo
 refine wpAny_bind (wpAny_call (PySem.W.class_get (s:=⟨hh,g,d,t,os⟩) X I k.ob ?_))
 exact wpAny_pure h
theorem exc_check {nameV:Value}{P:Unit->Shared->Prop}(X:K.In s.heap)(I:PySem.W.InstAt s.heap x ox D od)(k:ExcKit K D)(h:P () s) :
  wpAny (model prog w) A (checkBuiltinCall "BaseException.__getattribute__" ⟨[.ref x,nameV],[]⟩) P E s:=by
 have hk:builtinKind "BaseException.__getattribute__"=some .slot:=by decide +kernel
 have hsplit:splitId "BaseException.__getattribute__"=some ("BaseException","__getattribute__"):=by decide +kernel
 have ha:=F.args_bexc_ga (.ref x) nameV
 have LI:PySem.W.Looks (model prog w) s.heap (isInstance (.ref x) (.type "BaseException")) true:=(I.type (M:=model prog w)).andThen (PySem.W.looks_mroIn X k.be)
 obtain⟨hh,g,d,t,os⟩:=s
 simp only[checkBuiltinCall,hk,hsplit]
 refine wpAny_bind (LI.at ?_)
 repeat (any_goals (first | assumption | wp_step))
theorem exc_call {tk:Tok}{v:Value}(X:K.In s.heap)(I:PySem.W.InstAt s.heap x ox D od)(k:ExcKit K D)
  (hent:∀ {A':Around} {E':Value->Shared->Prop} {P:Fin->Shared->Prop},P (.done (.ret v)) s->wpAny (model prog w) A' (Builtin.«object.__getattribute__» ⟨[.ref x,.str name tk],[]⟩) P E' s) (h:R (.ok (.ret v)) s) :
  codeAny (model prog w) A (.call (.builtin "BaseException.__getattribute__") ⟨[.ref x,.str name tk],[]⟩) R s:=by
 refine codeAny_call_builtin F.attr_ValueError.ga.plain F.entry_bexc_ga (exc_check X I k ?_)
 refine hent ?_
 exact h
theorem exc_getBy {tk:Tok}{v:Value}{fill expr:Bool}(X:K.In s.heap)(I:PySem.W.InstAt s.heap x ox D od)(k:ExcKit K D)(hv:PySem.W.handedIn v=true)
  (hent:∀ {A':Around} {E':Value->Shared->Prop} {P:Fin->Shared->Prop},P (.done (.ret v)) s->wpAny (model prog w) A' (Builtin.«object.__getattribute__» ⟨[.ref x,.str name tk],[]⟩) P E' s) (h:Q v s) :
  wpAny (model prog w) A (getAttrBy (.ref x) (.str name tk) fill expr) Q E s:=by
 have FB:=F.attr_ValueError
 have f3:=FB.ga.bind (.ref x)
 have L0:=I.type (M:=model prog w)
 have L1:=PySem.W.looks_findIn (M:=model prog w) X k.ga
 have L2:=PySem.W.looks_findIn (M:=model prog w) X k.gn
 unfold getAttrBy
 refine wpAny_holding (wpAny_bind (L0.at (wpAny_bind (L1.at ?_))))
 show wpAny _ _ (getAttrByItsOwn _ _ _ _ _ _) _ _ _
 unfold getAttrByItsOwn
 refine wpAny_bind (L2.at ?_)
 refine wpAny_bind (wpAny_attempt (wpAny_holding ?_))
 have hx0:(expr&&onTheHeap (Value.builtin "BaseException.__getattribute__"))=false:=by cases expr <;> rfl
 unfold callGetattribute
 rw[hx0,if_neg Bool.false_ne_true]
 unfold boundAndCalled
 rw[f3]
 refine wpAny_bind (wpAny_pure ?_)
 refine wpAny_call (exc_call X I k hent ?_)
 show wpAny _ _ (handedOut v) _ _ _
 rw[PySem.W.handedOut_of hv]
 exact wpAny_pure h
theorem kitx_exc (k:ExcKit K D):PySem.W.KitX K (.ref x) (.ref D) (fun h=>PySem.W.InstAt h x ox D od) where
 ty:=fun _ _ _ I=>I.type
 it:=fun _ _ X _=>by
  obtain⟨cdD,hcD,_⟩:=PySem.W.any_some k.hd
  unfold PySem.W.clsIn at hcD
  split at hcD
  ·rename_i c' d' cd' sl' ho
   intro A' Q' E' s' k q
   unfold isType loadHead
   exact wpAny_bind (wpAny_loadPart (k _ _ (X _ _ ho)) (wpAny_pure q))
  ·exact L2.no_ns hcD
 ne:=fun h tp dd its n sl X htp=>by
  obtain⟨cdD,hcD,_⟩:=PySem.W.any_some k.hd
  refine Bool.eq_false_iff.mpr fun q=>?_
  have e:D=tp:=Value.ref.inj (beq_iff_eq.mp q)
  subst e
  unfold PySem.W.clsIn at hcD
  split at hcD
  ·rename_i c' d' cd' sl' ho
   have z:=(X _ _ ho).symm.trans htp
   cases z
  ·exact L2.no_ns hcD
 ca:=fun {prog w A E Q s} X I h=>by
  unfold getAttr? getAttrBy?
  refine wpAny_bind (wpAny_mkText (wpAny_bind (wpAny_attempt (exc_getBy (s:={ s with toks:=s.toks+1 }) X I k rfl (fun {A' E' P} hp=>exc_entry_cls (s:={ s with toks:=s.toks+1 }) X I k hp) ?_))))
  exact wpAny_pure h
end
def subX (cls T:Str):Bool:=cls==T||T=="PostError"||T=="ValueError"
def strX:PyData->Option Str
 | .str c=>some c
 | _=>none
def isTrue:PyData->Bool
 | .bool b=>b
 | _=>false
def exL:List (PyData×PyData)->Option Str
 | [p,_]=>if isTrue p.1=true then strX p.2 else none
 | _=>none
def isB (exs:List Str)(T:Str):PyData->Option Bool
 | .none=>some false
 | .dict l=>(exL l).bind fun c=>if exs.contains c=true then some (subX c T) else none
 | _=>none
def isC (exs:List Str)(T:Str)(d:PyData):Option PyData:=(isB exs T d).map .bool
structure IsT (K:PySem.W.Frag)(mg:Str->Option Value)(exs:List Str)(T:Str)(D:Addr):Prop where
 mg:mg T=some (.ref D)
 ex:∀ cls∈exs,∀ C,PySem.W.nsIn K mainGlobals cls=some (some (.ref C))->excKit K C=true∧PySem.W.kitOne K (.ref C) (.ref D)=some (subX cls T)
 no:PySem.W.kitOne K (.type "NoneType") (.ref D)=some false
structure IsV (K:PySem.W.Frag)(exs:List Str):Prop where
 ex:∀ cls∈exs,∀ C,PySem.W.nsIn K mainGlobals cls=some (some (.ref C))->excKit K C=true∧PySem.W.kitOne K (.ref C) (.type "ValueError")=some true
 no:PySem.W.kitOne K (.type "NoneType") (.type "ValueError")=some false
def rIsc (K:PySem.W.Frag)(exs:List Str)(T:Str)(c:V):List V->Hp->VK->Prop:=fun xs H Q=>∃ x d r,xs=[x,c]∧Den K H x d∧isC exs T d=some (.bool r)∧Q (.bl r) H
theorem inst_exc {X:Cx}{pins:List (Addr×Obj)}{σ:St}{H:Hp}{s:Shared}{e:Addr}{cls:Str}{fv:List (Str×V)}(I:Inv X pins σ H s)(h:ExcV X.K H e cls fv) :
  ∃ C ox od,PySem.W.InstAt s.heap e ox C od∧PySem.W.nsIn X.K mainGlobals cls=some (some (.ref C)):=by
 obtain⟨oe,C,vs,h1,h2,h3,h4,h5⟩:=id (h)
 obtain⟨q,_⟩:=(show ObjOk X.prog X.w H s.heap e (.frz oe _) from I.hok e _ h1)
 have hn:PySem.W.notCls oe=true:=by unfold PySem.W.notCls;rw[h3]
 rcases h5 with ⟨_,h5⟩ | ⟨dx,h5,h6⟩
 ·exact ⟨C,oe,none,(⟨q,h2,hn,by rw[h5];trivial⟩),h4⟩
 ·obtain⟨o,ho⟩:=(I.hok dx _ h6).there
  exact ⟨C,oe,some o,(⟨q,h2,hn,by rw[h5];exact ho⟩),h4⟩
theorem call_isc {X:Cx}{exs:List Str}{T:Str}{c:V}{cv:Value}(rc:RelV c cv)(rc1:∀ u,RelV c u->u=cv)
  (hx:∀ cls∈exs,∀ C,PySem.W.nsIn X.K mainGlobals cls=some (some (.ref C))->excKit X.K C=true∧PySem.W.kitOne X.K (.ref C) cv=some (subX cls T)) (hno:PySem.W.kitOne X.K (.type "NoneType") cv=some false) :
  CallR X (.builtin "isinstance") (rIsc X.K exs T c):=by
 intro pins s σ H xs us Q I r h
 revert h
 refine fun zqq=>?_;obtain⟨x,d,r1,zq3,D,hd,q⟩:=zqq
 subst zq3
 obtain⟨u,c',zq2,rx,rc'⟩:=r.two
 subst zq2
 cases rc1 c' rc'
 cases D with
 | non=>
  cases hd
  cases (show u=Value.none from rx)
  exact PySem.W.kia_one PySem.W.kitx_none I.kIn True.intro hno (fun z=>nomatch z) fun tk=>⟨.bl _,H,I.tok tk,rfl,q⟩
 | @exc e cls fv fd hv hr=>
  have hd:(if exs.contains cls=true then some (subX cls T) else none).map PyData.bool=some (.bool r1):=hd
  by_cases hm:exs.contains cls=true
  case neg=>rw[if_neg hm] at hd;exact L2.no_ns hd
  rw[if_pos hm] at hd
  cases hd
  cases (show u=Value.ref e from rx)
  obtain⟨C,ox,od,ia,hn⟩:=inst_exc I hv
  obtain⟨k1,k2⟩:=hx cls (List.contains_iff_mem.mp hm) C hn
  exact PySem.W.kia_one (kitx_exc (excKit_of k1)) I.kIn ia k2 (fun z=>nomatch z) fun tk=>⟨.bl _,H,I.tok tk,rfl,q⟩
 | _=>exact L2.no_ns hd
section
variable {X:Cx}{O:Ow}{e:Expr}{f:Rho->Option PyData}{p p2 pos:Pos}{exs:List Str}{T:Str}{D:Addr}
theorem isC_bool {d r:PyData}(h:isC exs T d=some r):∃ b,r=.bool b:=by
 obtain⟨b,_,rfl⟩:=map_some h
 exact⟨b,rfl⟩
theorem isc_imp {c:V}(hc:True):∀ σ H Q,tV X.K O (fun ρ=>(f ρ).bind (isC exs T)) σ H Q->tCB (rIsc X.K exs T c) (tCons (tR X.K O f) (tCons (tC c) tNil)) σ H Q:=fun σ H Q zpat=>by
 obtain⟨hid,H0,ρ,ow,r,E,hf,k⟩:=zpat
 obtain⟨d,g1,g2⟩:=bind_some hf
 obtain⟨b,zq1⟩:=isC_bool g2
 subst zq1
 exact⟨hid,H0,ρ,ow,d,E,g1,fun v H' s D=>⟨v,d,b,rfl,D.mono (del_same _ _),g2,k _ H' s (.bl _)⟩⟩
theorem v_isiC (I:IsT X.K X.mg exs T D)(he:PR X O e f)(hg:Gl X "isinstance")(hm:X.mg "isinstance"=none)(hgT:Gl X T)(hd:(T==("__debug__":Str))=false:=by decide)
  (h1:starEach [e,.Name T p2] X.env=(false,eval e X.env)::starEach [.Name T p2] X.env:=by rfl) (h2:starEach [.Name T p2] X.env=(false,eval (.Name T p2) X.env)::starEach [] X.env:=by rfl)
  (hpl:(backTo pos (starEach [.Name T p2] X.env)).any (·.1)=false:=by rfl):PV X O (.Call (.Name "isinstance" p) [e,.Name T p2] [] pos) (fun ρ=>(f ρ).bind (isC exs T)):=
 (pe_callB (call_isc (c:=.ref D) (cv:=.ref D) rfl (fun u r=>r) I.ex I.no) hg hm PyProof.Rows.boot_isinstance (pa_cons he (pa_cons (pe_glob (v:=.ref D) hgT I.mg rfl hd) pa_nil h2) h1) (by decide) (by decide) h1 hpl).imp (isc_imp trivial)
theorem bt_ValueError:bootBuiltins "ValueError"=some (.type "ValueError"):=by decide +kernel
theorem v_isiV (I:IsV X.K exs)(he:PR X O e f)(hg:Gl X "isinstance")(hm:X.mg "isinstance"=none)(hgT:Gl X "ValueError")(hmT:X.mg "ValueError"=none)(hvT:bootBuiltins "ValueError"=some (.type "ValueError"))
  (h1:starEach [e,.Name "ValueError" p2] X.env=(false,eval e X.env)::starEach [.Name "ValueError" p2] X.env:=by rfl) (h2:starEach [.Name "ValueError" p2] X.env=(false,eval (.Name "ValueError" p2) X.env)::starEach [] X.env:=by rfl)
  (hpl:(backTo pos (starEach [.Name "ValueError" p2] X.env)).any (·.1)=false:=by rfl):PV X O (.Call (.Name "isinstance" p) [e,.Name "ValueError" p2] [] pos) (fun ρ=>(f ρ).bind (isC exs "ValueError")):=
 (pe_callB (call_isc (T:="ValueError") (c:=.ty "ValueError") (cv:=.type "ValueError") rfl (fun u r=>r) (fun cls h C hC=>⟨(I.ex cls h C hC).1,by rw[(I.ex cls h C hC).2];simp[subX]⟩) I.no) hg hm PyProof.Rows.boot_isinstance (pa_cons he (pa_cons (pe_bltn (v:=.ty "ValueError") hgT hmT hvT rfl (by decide) (by decide)) pa_nil h2) h1) (by decide) (by decide) h1 hpl).imp (isc_imp trivial)
end
end L2
namespace L2
variable [Reg]
def flatD:PyData->Bool
 | .none=>true
 | .bool _=>true
 | .int _=>true
 | .str _=>true
 | _=>false
def eqF:PyData->PyData->Bool
 | .none,.none=>true
 | .bool a,.bool b=>a==b
 | .bool a,.int b=>(if a then 1 else 0)==b
 | .int a,.bool b=>a==(if b then 1 else 0)
 | .int a,.int b=>a==b
 | .str a,.str b=>a==b
 | _,_=>false
theorem flat_den {K:PySem.W.Frag}{H:Hp}{v:V}{d:PyData}(h:Den K H v d)(f:flatD d=true):flatV v=true∧Sc v d:=by
 cases h with
 | non=>exact⟨rfl,.non⟩
 | bl b=>exact⟨rfl,.bl b⟩
 | int i=>exact⟨rfl,.int i⟩
 | str x=>exact⟨rfl,.str x⟩
 | _=>exact L2.no_ft f
theorem eqV_F {v w:V}{d e:PyData}(h:Sc v d)(k:Sc w e):eqV v w=eqF d e:=by
 cases h <;> cases k <;> rfl
theorem flat_denL {K:PySem.W.Frag}{H:Hp}{w:V}{e:PyData}(k:Sc w e):∀ {vs:List V} {ds:List PyData},DenL K H vs ds->ds.all flatD=true->vs.all flatV=true∧vs.map (fun v=>eqV v w)=ds.map (fun d=>eqF d e):=by
 intro vs ds h
 refine h.ind (M:=fun vs ds=>ds.all flatD=true->vs.all flatV=true∧vs.map (fun v=>eqV v w)=ds.map (fun d=>eqF d e)) (fun _=>⟨rfl,rfl⟩) ?_
 ·intro v d vs ds h _ ih f
  rw[List.all_cons,Bool.and_eq_true] at f
  obtain⟨a1,a2⟩:=flat_den h f.1
  obtain⟨b1,b2⟩:=ih f.2
  exact⟨by rw[List.all_cons,a1,b1];rfl,by rw[List.map_cons,List.map_cons,b2,eqV_F a2 k]⟩
theorem map_eqU {x:V}{xs:List V}{us:List Value}(h:Vals xs us):xs.all flatV=true->us.map (eqU x)=xs.map fun y=>eqV y x:=by
 induction h with
 | nil=>exact fun _=>rfl
 | cons r t ih=>
  intro f
  rw[List.all_cons,Bool.and_eq_true] at f
  rw[List.map_cons,List.map_cons,eqU_of r f.1,ih f.2]
theorem findIdx_map {α:Type}(p:α->Bool):∀ xs:List α,(xs.map p).findIdx? id=xs.findIdx? p
 | []=>rfl
 | x::r=>by
  rw[List.map_cons,List.findIdx?_cons,List.findIdx?_cons,findIdx_map p r]
  rfl
theorem countP_map' {α:Type}(p:α->Bool)(xs:List α):(xs.map p).countP id=xs.countP p:=by
 rw[List.countP_map];rfl
section
variable {X:Cx}{O:Ow}{a b:Expr}{fa fb:Rho->Option PyData}{apos cpos pos p:Pos}
def rIdx (K:PySem.W.Frag):V->List V->Hp->VK->Prop:=fun x vs H Q=>∃ l y xs j,x=.ref l∧vs=[y]∧SqL K H l xs∧flatV y=true∧xs.all flatV=true∧(xs.map fun z=>eqV z y).findIdx? id=some j∧Q (.int (j:Nat)) H
theorem mt_index:MtR X "list.index" (rIdx X.K):=by
 intro pins s σ H x vs v us Q I rx rv h
 revert h
 refine fun zqq=>?_;obtain⟨l,y,xs,j,zq4,zq5,hq,fy,fs,hj,q⟩:=zqq
 subst zq4
 subst zq5
 cases rx
 obtain⟨u,zq1,ru⟩:=rv.one
 subst zq1
 obtain⟨its,r,pl,hz⟩:=I.list hq
 obtain⟨⟨cls,dd,data,sl⟩,ho,hc,n,hd⟩:=pl.isList
 simp only at hc hd
 subst hc hd
 rw[← map_eqU r fs,findIdx_map] at hj
 have hjl:j<its.length:=(List.findIdx?_eq_some_iff_findIdx_eq.mp hj).1
 have hl:=r.length
 have hz':sizeLine<2 ^ 62:=by decide
 obtain⟨h1,h2⟩:=List.findIdx?_eq_some_iff_getElem.mp hj
 refine call_meets PySem.F.slot_list_index ⟨_,ho,rfl⟩ PySem.F.entry_list_index (PySem.F.args_list_index_2 _ _)
  (SeqAt.list_indexAt l its.toArray n dd sl u (eqU y) j (by simpa using hjl) (by omega) (by simpa using h2.1) (fun m hm hlt=>by
   have:=h2.2 m hlt
   simpa using this)) ⟨ho,fun w hw=>mem_eqAt ru fy r fs w (by simpa using hw),⟨.int (j:Nat),H,I.tok _,⟨_,rfl⟩,q⟩⟩
def indexD:PyData->PyData->Option PyData
 | .list ds,e=>if (ds.all flatD&&flatD e)=true then ((ds.map fun d=>eqF d e).findIdx? id).map fun j=>.int (j:Nat) else none
 | _,_=>none
theorem v_index (ha:PR X O a fa)(hb:PR X O b fb)(hbase:attributeBase a "index" X.env (eval a X.env)=eval a X.env:=by rfl)
  (hfew:((backTo cpos (starEach [b] X.env)).all (fun x=>!x.1)&&(backToKw cpos (keywordEach [] X.env)).all (fun x=>x.1.isSome)&&decide ([b].length+([]:List Keyword).length+(if ([]:List Keyword).isEmpty then 0 else 1)<30))=true:=by rfl)
  (hline:(apos.endLine==cpos.line)=true:=by rfl) (hst:starEach [b] X.env=(false,eval b X.env)::starEach [] X.env:=by rfl) (hplain:(backTo cpos (starEach [] X.env)).any (·.1)=false:=by rfl) :
  PV X O (.Call (.Attribute a "index" apos) [b] [] cpos) (fun ρ=>bind2 (fa ρ) (fb ρ) indexD):=
 (pe_bm PySem.F.plainAttrs_list PySem.F.slot_list_index PySem.F.type_list_index mt_index ha (pa_cons hb pa_nil hst) hbase hfew hline hst hplain).imp fun σ H Q zpat=>by
  obtain⟨hid,H0,ρ,ow,r,E,hf,k⟩:=zpat
  obtain⟨d,e,h1,h2,h3⟩:=bind2_some hf
  unfold indexD at h3
  split at h3
  case h_2=>cases h3
  split at h3
  case isFalse=>cases h3
  rename_i ds hfl
  rw[Bool.and_eq_true] at hfl
  obtain⟨j,h4,rfl⟩:=map_some h3
  refine⟨hid,H0,ρ,ow,_,E,h1,fun x H1 s1 D1=>?_⟩
  obtain⟨l,xs,rfl,q1,r1⟩:=den_lst D1
  refine⟨.inl ⟨rfl,xs,(del_same _ _).seq q1⟩,hid,H0,ρ,ow,e,E.mono s1,h2,fun y H2 s2 D2=>?_⟩
  obtain⟨f1,f2⟩:=flat_den D2 hfl.2
  obtain⟨g1,g2⟩:=flat_denL f2 r1 hfl.1
  exact ⟨l,y,xs,j,rfl,rfl,s2.seq ((del_same _ _).seq q1),f1,g1,(by rw[g2];exact h4),k _ H2 (s1.trans s2) (.int _)⟩
def rCnt (K:PySem.W.Frag):V->List V->Hp->VK->Prop:=fun x vs H Q=>∃ l y xs,x=.ref l∧vs=[y]∧SqL K H l xs∧flatV y=true∧xs.all flatV=true∧Q (.int ((xs.map fun z=>eqV z y).countP id:Nat)) H
theorem mt_count:MtR X "list.count" (rCnt X.K):=by
 intro pins s σ H x vs v us Q I rx rv h
 revert h
 refine fun zqq=>?_;obtain⟨l,y,xs,zq3,zq4,hq,fy,fs,q⟩:=zqq
 subst zq3
 subst zq4
 cases rx
 obtain⟨u,zq1,ru⟩:=rv.one
 subst zq1
 obtain⟨its,r,pl,hz⟩:=I.list hq
 obtain⟨⟨cls,dd,data,sl⟩,ho,hc,n,hd⟩:=pl.isList
 simp only at hc hd
 subst hc hd
 refine call_meets PySem.F.slot_list_count ⟨_,ho,rfl⟩ PySem.F.entry_list_count (PySem.F.args_list_count_2 _ _) (SeqAt.list_countAt l its.toArray n dd sl u (eqU y)) ⟨ho,fun w hw=>mem_eqAt ru fy r fs w (by simpa using hw),?_⟩
 rw[show its.toArray.toList=its from rfl,← countP_map',map_eqU r fs]
 exact⟨.int _,H,I.tok _,⟨_,rfl⟩,q⟩
def countD:PyData->PyData->Option PyData
 | .list ds,e=>if (ds.all flatD&&flatD e)=true then some (.int ((ds.map fun d=>eqF d e).countP id:Nat)) else none
 | _,_=>none
theorem v_count (ha:PR X O a fa)(hb:PR X O b fb)(hbase:attributeBase a "count" X.env (eval a X.env)=eval a X.env:=by rfl)
  (hfew:((backTo cpos (starEach [b] X.env)).all (fun x=>!x.1)&&(backToKw cpos (keywordEach [] X.env)).all (fun x=>x.1.isSome)&&decide ([b].length+([]:List Keyword).length+(if ([]:List Keyword).isEmpty then 0 else 1)<30))=true:=by rfl)
  (hline:(apos.endLine==cpos.line)=true:=by rfl) (hst:starEach [b] X.env=(false,eval b X.env)::starEach [] X.env:=by rfl) (hplain:(backTo cpos (starEach [] X.env)).any (·.1)=false:=by rfl) :
  PV X O (.Call (.Attribute a "count" apos) [b] [] cpos) (fun ρ=>bind2 (fa ρ) (fb ρ) countD):=
 (pe_bm PySem.F.plainAttrs_list PySem.F.slot_list_count PySem.F.type_list_count mt_count ha (pa_cons hb pa_nil hst) hbase hfew hline hst hplain).imp fun σ H Q zpat=>by
  obtain⟨hid,H0,ρ,ow,r,E,hf,k⟩:=zpat
  obtain⟨d,e,h1,h2,h3⟩:=bind2_some hf
  unfold countD at h3
  split at h3
  case h_2=>cases h3
  split at h3
  case isFalse=>cases h3
  rename_i ds hfl
  rw[Bool.and_eq_true] at hfl
  obtain rfl:=Option.some.inj h3
  refine⟨hid,H0,ρ,ow,_,E,h1,fun x H1 s1 D1=>?_⟩
  obtain⟨l,xs,rfl,q1,r1⟩:=den_lst D1
  refine⟨.inl ⟨rfl,xs,(del_same _ _).seq q1⟩,hid,H0,ρ,ow,e,E.mono s1,h2,fun y H2 s2 D2=>?_⟩
  obtain⟨f1,f2⟩:=flat_den D2 hfl.2
  obtain⟨g1,g2⟩:=flat_denL f2 r1 hfl.1
  exact ⟨l,y,xs,rfl,rfl,s2.seq ((del_same _ _).seq q1),f1,g1,(by rw[g2];exact k _ H2 (s1.trans s2) (.int _))⟩
theorem call_sum (hc:X.calm=true):CallR X (.builtin "sum") (fun xs H Q=>∃ (a:Addr) (ns:List Int),xs=[.ref a]∧SqL X.K H a (ns.map V.int)∧Q (.int ns.sum) H):=by
 intro pins s σ H xs us Q I r h
 revert h
 refine fun zqq=>?_;obtain⟨q,ns,zq2,hq,k⟩:=zqq
 subst zq2
 obtain⟨u,zq1,rx⟩:=vals1 r
 subst zq1
 cases rx
 obtain⟨its,r',pl,hz⟩:=I.list hq
 have hI:=intsAre_of r'
 have hl:=pl.isList
 obtain⟨xs,hx⟩:=hI.allInts.items
 have hn:numsOf its.toArray.toList=ns:=by rw[show its.toArray.toList=its from rfl,hI.numsOf]
 rw[hx] at hl hn
 rw[nums_intItems] at hn
 refine sum_intListG (I.ok.hd hc) hl fun h' tk t' hk=>?_
 rw[preSum_eq,List.take_of_length_le (by simp),hn]
 exact⟨.int _,H,I.kept (t':=tk) hk,⟨t',rfl⟩,k⟩
def sumD:PyData->Option PyData
 | .list ds=>(intsO ds).map fun ns=>.int ns.sum
 | _=>none
theorem v_sum (hc:X.calm=true)(hg:Gl X "sum")(hm:X.mg "sum"=none)(ha:PR X O a fa)(he:starEach [a] X.env=(false,eval a X.env)::starEach [] X.env:=by rfl)(hpl:(backTo pos (starEach [] X.env)).any (·.1)=false:=by rfl)
  (hv:bootBuiltins "sum"=some (.builtin "sum"):=by decide +kernel):PV X O (.Call (.Name "sum" p) [a] [] pos) (fun ρ=>(fa ρ).bind sumD):=
 (pe_callB (call_sum hc) hg hm hv (pa_cons ha pa_nil he) (by decide) (by decide) he hpl).imp fun σ H Q zpat=>by
  obtain⟨hid,H0,ρ,ow,r,E,hf,k⟩:=zpat
  obtain⟨d,h1,h2⟩:=bind_some hf
  refine⟨hid,H0,ρ,ow,d,E,h1,fun x H1 s1 D1=>?_⟩
  unfold sumD at h2
  split at h2
  case h_2=>cases h2
  obtain⟨ns,h3,rfl⟩:=map_some h2
  have e:=intsO_some h3
  subst e
  obtain⟨q,vs,rfl,q1,r1⟩:=den_lst D1
  have e2:=r1.isInts
  subst e2
  exact ⟨q,ns,rfl,(del_same _ _).seq q1,k _ H1 s1 (.int _)⟩
end
end L2
namespace L2
variable [Reg]
section
variable {K:PySem.W.Frag}{O O':Ow}{hid:Addr->Prop}{H0 H H':Hp}{σ:St}{ρ:Rho}{ow:List Addr}
theorem set_none {ρ:Rho}{i j:Nat}{d:PyData}(q:(ρ.set i none)[j]?=some (some d)):j≠i∧ρ[j]?=some (some d):=by
 by_cases hj:j=i
 ·subst hj
  have hl:j<ρ.length:=by have:=(List.getElem?_eq_some_iff.mp q).1;simpa using this
  rw[List.getElem?_set_self hl] at q
  cases q
 ·rw[List.getElem?_set_ne (Ne.symm hj)] at q
  exact⟨hj,q⟩
end
section
variable {X:Cx}{O O':Ow}{st:Stmt}{rest:List Stmt}{F G:Rho->Option Out}{e:Expr}{f:Rho->Option PyData}{pos:Pos}
theorem EnvOk.free {K:PySem.W.Frag}{O:Ow}{hid:Addr->Prop}{H0 H:Hp}{σ:St}{ρ:Rho}{ow:List Addr}(E:EnvOk K O hid H0 σ H ρ ow)(r:Ty):EnvOk K ⟨[],r⟩ hid H0 σ H ρ []:=by
 refine⟨E.len,E.baseS.trans (fun b o q=>(by rw[del_out (by simp)];exact q)),fun i d _ q=>?_,⟨fun _=>[],(fun i t d h=>(by cases h)),(fun i j p _ h=>(by cases h)),(fun i p h=>(by cases h))⟩,(fun l h=>(by cases h)),E.ishL,fun _=>rfl⟩
 obtain⟨v,a,b⟩:=E.raw q
 exact⟨v,a,b.mono (del_sub fun b z=>by
  rcases z with z | z
  ·exact z
  ·cases z)⟩
end
section
variable {X:Cx}{O:Ow}{i:Nat}{x:Str}{pos' spos:Pos}{elt tg iter:Expr}{ifs:List Expr}{scope:Scope}{pos:Pos}{fi:Rho->Option (List PyData)}{S:PyData->Rho->Option Rho}{ft:Rho->Option Bool}{fe:Rho->Option PyData}{k:Nat}{N:List Str}{ix:List Nat}
end
section
variable {X:Cx}{O:Ow}{i:Nat}
end
end L2
namespace L2
variable [Reg]
section
variable {K:PySem.W.Frag}{O:Ow}{hid:Addr->Prop}{H0 H H' C C':Hp}{σ:St}{ρ:Rho}{ow:List Addr}
theorem DenOs.snoc {t:Ty}{v:V}{d:PyData}{bs:List Addr}(h2:DenO K H C t v d bs){vs:List V}{ds:List PyData}{as:List Addr}(h:DenOs K H C t vs ds as):(∀ p∈as,p∉bs)->DenOs K H C t (vs++[v]) (ds++[d]) (as++bs):=
 DenOs.ind (P:=fun vs ds as=>(∀ p∈as,p∉bs)->DenOs K H C t (vs++[v]) (ds++[d]) (as++bs)) (fun _=>by
  have:=DenOs.cons h2 (.nil (K:=K) (H:=H) (C:=C) (t:=t)) (fun p _ z=>absurd z List.not_mem_nil)
  rw[List.append_nil] at this
  exact this) (fun h r n ih q=>by
  rw[List.append_assoc]
  exact .cons h (ih fun p hp=>q p (List.mem_append_right _ hp)) fun p hp z=>(List.mem_append.mp z).elim (n p hp) (q p (List.mem_append_left _ hp))) h
inductive CIt (K:PySem.W.Frag)(hid:Addr->Prop)(H H1:Hp)(D:Addr)(T:Ty)(S:PyData->Rho->Option Rho)(ft:Rho->Option Bool)(fe:Rho->Option PyData)(ds out:List PyData)(i m:Nat)(τ:St)(H2:Hp):Prop
 | mk (ρ2:Rho) (ys:List V) (done rest left:List PyData) (as:List Addr) (hM:Mid ds i m left) (E2:EnvOk K O0 (uni hid (D::as)) H τ H2 ρ2 []) (s2:Same H1 H2) (hy:H2 D=some (.lst ys)) (hd:DenOs K H2 (del H2 (uni hid (D::as))) T ys done as) (hn:∀ p∈as,H1 p=none∧p≠D) (hr:compD S ft fe left ρ2=some rest) (ho:out=done++rest) (hl:done.length≤i):CIt K hid H H1 D T S ft fe ds out i m τ H2
end
section
variable {K:PySem.W.Frag}{O:Ow}{hid:Addr->Prop}{H0 H H':Hp}{σ:St}{ρ:Rho}{ow:List Addr}
end
section
variable {X:Cx}{O:Ow}{i:Nat}{pos:Pos}
end
end L2
namespace L2
variable [Reg]
def tX (K:PySem.W.Frag)(O:Ow)(f:Rho->Option (PyData×Rho)):TE:=fun σ H Q=>At5 K O f σ H fun hid H0 ρ ow r=>∀ v H',EnvOk K O hid H0 σ H' r.2 ow->Same (del H (uni hid ow)) (del H' (uni hid ow))->Den K (del H' (uni hid ow)) v r.1->Q v H'
abbrev PX (X:Cx)(O:Ow)(e:Expr)(f:Rho->Option (PyData×Rho)):Prop:=PE X e (tX X.K O f)
def popD (i:Nat)(ρ:Rho):Option (PyData×Rho):=((ρ[i]?).join.bind listD).bind fun ds=>ds.getLast?.map fun d=>(d,ρ.set i (some (.list ds.dropLast)))
def opL (g:PyData->PyData->Option PyData)(fa:Rho->Option (PyData×Rho))(fb:Rho->Option PyData)(ρ:Rho):Option (PyData×Rho):=(fa ρ).bind fun r=>(fb r.2).bind fun e=>(g r.1 e).map fun d=>(d,r.2)
def opR (g:PyData->PyData->Option PyData)(fa:Rho->Option PyData)(fb:Rho->Option (PyData×Rho))(ρ:Rho):Option (PyData×Rho):=(fa ρ).bind fun d=>(fb ρ).bind fun r=>(g d r.1).map fun e=>(e,r.2)
def setEff (i:Nat)(x:Option (PyData×Rho)):Option Out:=x.map fun r=>.nx (r.2.set i (some r.1))
section
variable {X:Cx}{O:Ow}{a b e:Expr}{fa fb:Rho->Option PyData}{pos:Pos}
theorem DenL.dropLast {K:PySem.W.Frag}{H:Hp}{vs:List V}{ds:List PyData}(h:DenL K H vs ds):DenL K H vs.dropLast ds.dropLast:=by
 rw[List.dropLast_eq_take,List.dropLast_eq_take,h.length]
 exact h.take _
theorem x_pop {i:Nat}{x:Str}{p apos cpos:Pos}(hx:PE X (.Name x p) (tVar i))(hO:O.s.lookup i=some (.lst .cl):=by rfl)
  (hbase:attributeBase (.Name x p) "pop" X.env (eval (.Name x p) X.env)=eval (.Name x p) X.env:=by rfl) (hline:(apos.endLine==cpos.line)=true:=by rfl) :
  PX X O (.Call (.Attribute (.Name x p) "pop" apos) [] [] cpos) (popD i):=
 (pe_bm0 PySem.F.plainAttrs_list PySem.F.slot_list_pop PySem.F.type_list_pop mt_pop (at_name hx hO) hbase hline).imp fun σ H Q zpat=>by
  obtain⟨hid,H0,ρ,ow,r,E,hf,k⟩:=zpat
  obtain⟨ds,g1,g2⟩:=bind_some hf
  obtain⟨d,g3,rfl⟩:=map_some g2
  obtain⟨dl,g4,g5⟩:=bind_some g1
  rw[listD_some g5] at g4
  refine ⟨hid,H0,ρ,ow,.list ds,[],ds,E,join_some g4,rfl,rfl,rfl,(fun H1 l vs s1 hH hD hl hE=>?_)⟩
  rw[List.getLast?_eq_getElem?] at g3
  obtain⟨y,h1,h2⟩:=hD.get g3
  rw[← hD.length] at h1
  refine ⟨(.inl ⟨rfl,vs,SqL.of hH⟩),l,vs,y,rfl,rfl,hH,h1,k y _ (hE H1 (Same.refl _) _ _ hD.dropLast) ?_ ?_⟩
  ·rw[del_upd (uni_in hl)];exact del_mono s1 _
  ·rw[del_upd (uni_in hl)];exact h2
theorem x_opL {op:Operator}{rd:R2}{g:PyData->PyData->Option PyData}{fa:Rho->Option (PyData×Rho)}(ho:OpR X (binaryOp op) rd)(hg:SpecOp X.K rd g)(ha:PX X O a fa)(hb:PR X O b fb):PX X O (.BinOp a op b pos) (opL g fa fb):=
 (pe_op ho ha hb).imp fun σ H Q zpat=>by
  obtain⟨hid,H0,ρ,ow,r,E,hf,k⟩:=zpat
  obtain⟨r1,h1,h2⟩:=bind_some hf
  obtain⟨y1,h3,h4⟩:=bind_some h2
  obtain⟨d,h5,rfl⟩:=map_some h4
  exact⟨hid,H0,ρ,ow,r1,E,h1,fun x H1 E1 s1 D1=>⟨hid,H0,r1.2,ow,y1,E1,h3,fun y H2 s2 D2=>hg x y H2 _ _ _ Q ((D1.mono (del_mono s2 _)).mono (del_same _ _)) (D2.mono (del_same _ _)) h5 fun v S=>k v H2 (E1.mono s2) (s1.trans (del_mono s2 _)) S.den⟩⟩
theorem PV.x (h:PV X O e fa):PX X O e (fun ρ=>(fa ρ).map fun d=>(d,ρ)):=h.imp fun σ H Q zpat=>by
 obtain⟨hid,H0,ρ,ow,r,E,hf,k⟩:=zpat
 obtain⟨d,h1,rfl⟩:=map_some hf
 exact⟨hid,H0,ρ,ow,d,E,h1,fun v H' s D=>k v H' (E.mono s) (del_mono s _) D⟩
theorem s_setX {i:Nat}{x:Str}{pos':Pos}{f:Rho->Option (PyData×Rho)}(hN:X.N.Nodup)(hi:X.N[i]?=some x)(hx:Loc X.env.scope x)(he:PX X O e f)(hO:O.s.lookup i=none:=by rfl)(hs:swapsWith e (some (.Name x pos')) pos.line X.env=pure false:=by rfl)(hf:X.fn x=true∨X.env.scope.names.lookup x=some .local:=by first | exact .inl rfl | exact .inr rfl | assumption) :
  PSv X O (.Assign [.Name x pos'] e pos) (fun ρ=>setEff i (f ρ)):=(ps_set hN hi hx he hs hf).imp fun D σ H zpat=>by
 obtain⟨hid,H0,ρ,ow,o,E,hf,k⟩:=zpat
 obtain⟨d,g1,rfl⟩:=map_some hf
 exact⟨hid,H0,ρ,ow,d,E,g1,fun v H' E' s Dv=>k _ H' ow s (E'.set hO Dv)⟩
theorem x_modL {fa:Rho->Option (PyData×Rho)}(ha:PX X O a fa)(hb:PR X O b fb):PX X O (.BinOp a .Mod b pos) (opL modD fa fb):=x_opL op_modN (spI (fun _ _=>.int _) fun i j h=>of_decide_eq_true h) ha hb
end
end L2
namespace L2
variable [Reg]
section
variable {X:Cx}{O:Ow}{a b e:Expr}{fa fb:Rho->Option PyData}{pos:Pos}{l:Addr}
theorem at_nameI {i:Nat}(h:PE X e (tVar i))(hi:O.s.lookup i=some (.io l):=by rfl):PAt X O i (.io l) e (fun _=>some []):=h.imp fun σ H Q zpat=>by
 obtain⟨hid,H0,ρ,ow,d,path,ds,E,hρ,hp,ht,hg,k⟩:=zpat
 obtain rfl:=Option.some.inj hp
 obtain⟨v,m,vs,h1,h2,h3,h4,h5,h6⟩:=E.at hi hρ ht hg
 cases h2
 exact⟨.ref m,h1,k H m vs (Same.refl H) h3 h4 h5 h6⟩
theorem x_popI {i:Nat}{x:Str}{p apos cpos:Pos}(hx:PE X (.Name x p) (tVar i))(hO:O.s.lookup i=some (.io l):=by rfl)
  (hbase:attributeBase (.Name x p) "pop" X.env (eval (.Name x p) X.env)=eval (.Name x p) X.env:=by rfl) (hline:(apos.endLine==cpos.line)=true:=by rfl) :
  PX X O (.Call (.Attribute (.Name x p) "pop" apos) [] [] cpos) (popD i):=
 (pe_bm0 PySem.F.plainAttrs_list PySem.F.slot_list_pop PySem.F.type_list_pop mt_pop (at_nameI hx hO) hbase hline).imp fun σ H Q zpat=>by
  obtain⟨hid,H0,ρ,ow,r,E,hf,k⟩:=zpat
  obtain⟨ds,g1,g2⟩:=bind_some hf
  obtain⟨d,g3,rfl⟩:=map_some g2
  obtain⟨dl,g4,g5⟩:=bind_some g1
  rw[listD_some g5] at g4
  refine ⟨hid,H0,ρ,ow,.list ds,[],ds,E,join_some g4,rfl,rfl,rfl,(fun H1 l vs s1 hH hD hl hE=>?_)⟩
  rw[List.getLast?_eq_getElem?] at g3
  obtain⟨y,h1,h2⟩:=hD.get g3
  rw[← hD.length] at h1
  refine ⟨(.inl ⟨rfl,vs,SqL.of hH⟩),l,vs,y,rfl,rfl,hH,h1,k y _ (hE H1 (Same.refl _) _ _ hD.dropLast) ?_ ?_⟩
  ·rw[del_upd (uni_in hl)];exact del_mono s1 _
  ·rw[del_upd (uni_in hl)];exact h2
end
theorem del_eq {H:Hp}{l:Addr}:del H (fun b=>b=l) l=none:=del_in (P:=fun b=>b=l) rfl
theorem del_neq {H:Hp}{l b:Addr}(h:b≠l):del H (fun b=>b=l) b=H b:=del_out (P:=fun b=>b=l) h
inductive SpIO (K:PySem.W.Frag)(j:Nat)(T:Ty)(F:List PyData->Option (PyData×List PyData))(vs:List V)(H:Hp)(Q:VK):Prop
 | mk (hid:Addr->Prop) (l:Addr) (ws:List V) (es0 ds:List PyData) (r:PyData×List PyData) (h1:∀ b,hid b->∃ vs:OwO,H b=some vs.ho) (h2:¬ hid l) (h3:vs[j]?=some (.ref l)) (h4:H l=some (.lst ws)) (h5:DenL K (del H (uni hid [l])) ws es0)
  (h6:ds.length=vs.length) (h7:ds[j]?=some (.list es0)) (h8:∀ (i:Nat) (v:V) (d:PyData),i≠j->vs[i]?=some v->ds[i]?=some d->Den K (del H (uni hid [l])) v d) (h9:F ds=some r)
  (k:∀ v as H' ws',Same (del H fun b=>b=l) H'->H' l=some (.lst ws')->DenL K (del H' (uni hid (l::as))) ws' r.2->(∀ p∈as,H p=none)->DenO K H' (del H' (uni hid (l::as))) T v r.1 as->Q v H'):SpIO K j T F vs H Q
def spIO (K:PySem.W.Frag)(j:Nat)(T:Ty)(F:List PyData->Option (PyData×List PyData)):Sp:=fun vs H Q _=>SpIO K j T F vs H Q
inductive ThenI (K:PySem.W.Frag)(O:Ow)(l:Addr)(hid:Addr->Prop)(H0:Hp)(D:Ends)(o:Out):Prop
 | mk (d:PyData) (es:List PyData) (e:o=.rt (.tuple [d,.list es]))
  (k:∀ v as H' ws',Same H0 H'->H' l=some (.lst ws')->DenL K (del H' (uni hid (l::as))) ws' es->(∀ p∈as,H0 p=none∧p≠l)->DenO K H' (del H' (uni hid (l::as))) O.r v d as->D.rt v H'):ThenI K O l hid H0 D o
def tI (K:PySem.W.Frag)(O:Ow)(l:Addr)(F:Rho->Option Out):TS:=fun D σ H=>At5 K O F σ H fun hid H0 ρ ow o=>ThenI K O l hid H0 D o
abbrev PSI (X:Cx)(O:Ow)(l:Addr)(sts:List Stmt)(F:Rho->Option Out):Prop:=PSs X sts (tI X.K O l F)
def seqI (F G:Rho->Option Out)(ρ:Rho):Option Out:=(F ρ).bind fun o=>match o with
 | .nx ρ'=>G ρ'
 | _=>none
def retI (j:Nat)(f:Rho->Option PyData)(ρ:Rho):Option Out:=(f ρ).bind fun d=>((ρ[j]?).join.bind listD).map fun es=>.rt (.tuple [d,.list es])
section
variable {X:Cx}{O:Ow}{st:Stmt}{rest:List Stmt}{F G:Rho->Option Out}{e:Expr}{f:Rho->Option PyData}{pos:Pos}{l:Addr}{j:Nat}
theorem ss_consI (h1:PSv X O st F)(h2:PSI X O l rest G):PSI X O l (st::rest) (seqI F G):=(pss_cons h1 h2).imp fun D σ H zpat=>by
 obtain⟨hid,H0,ρ,ow,o,E,hf,d,es,rfl,k⟩:=zpat
 obtain⟨o1,g1,g2⟩:=bind_some hf
 refine⟨hid,H0,ρ,ow,o1,E,g1,?_⟩
 cases o1 with
 | nx ρ1=>exact fun σ' H' ow' s' E'=>⟨hid,H0,ρ1,ow',_,E',g2,d,es,rfl,k⟩
 | rt d=>exact L2.no_ns g2
 | bk ρ1=>exact L2.no_ns g2
 | ct ρ1=>exact L2.no_ns g2
theorem ss_retI {U:List Nat}(h:PRt X O U O.r e f)(hj:O.s.lookup j=some (.io l):=by rfl)(hU:j∉U:=by decide):PSI X O l [.Return (some e) pos] (retI j f):=(pss_one (ps_ret h)).imp fun D σ H zpat=>by
 obtain⟨hid,H0,ρ,ow,o,E,hf,d,es,e1,k⟩:=zpat
 obtain⟨d',g1,g2⟩:=bind_some hf
 obtain⟨es',g3,g4⟩:=map_some g2
 rw[← g4] at e1
 injection e1 with e1
 injection e1 with e1
 injection e1 with e1 e2
 injection e2 with e2 _
 injection e2 with e2
 subst e1 e2
 obtain⟨dl,g5,g6⟩:=bind_some g3
 rw[listD_some g6] at g5
 obtain⟨A,EA⟩:=E.own
 obtain⟨v0,hv,D0⟩:=EA.1 j _ _ hj (join_some g5)
 generalize hA:A j=Aj at D0
 cases D0 with
 | @io _ ws _ hl q=>
  have hlA:l∈A j:=by rw[hA];exact List.mem_singleton.mpr rfl
  have hlo:=EA.2.2 j l hlA
  refine ⟨hid,H0,ρ,ow,d',A,E,EA,g1,(fun v as H' s n Dv=>k v as H' ws (E.baseS.trans s) (s _ _ hl) (q.mono fun b o z=>?_) (fun p hp=>⟨?_,?_⟩) (Dv.mono (del_sub fun b z=>?_) fun p _ o e=>e))⟩
  ·by_cases hb:uni hid ow b
   ·rw[del_in hb] at z;cases z
   ·rw[del_out hb] at z
    rw[del_out fun y=>?_]
    ·exact s b o z
    ·rcases y with y | y
     ·exact hb (.inl y)
     ·rcases List.mem_cons.mp y with rfl | y
      ·exact hb (.inr hlo)
      ·rcases n b y with w | ⟨i,_,w⟩
       ·rw[w] at z;cases z
       ·exact hb (.inr (EA.2.2 i b w))
  ·rcases n p hp with w | ⟨i,_,w⟩
   ·exact E.baseS.free w
   ·exact E.ow0 (EA.2.2 i p w)
  ·rintro rfl
   rcases n p hp with w | ⟨i,hi,w⟩
   ·rw[hl] at w;cases w
   ·exact EA.2.1 i j p (fun z=>hU (z▸hi)) w hlA
  ·rcases z with z | z
   ·exact .inl z
   ·rcases List.mem_cons.mp z with rfl | z
    ·exact .inr (List.mem_append_right _ hlo)
    ·exact .inr (List.mem_append_left _ z)
end
theorem isL_some {d:PyData}{ds:List PyData}(h:isL d=some ds):d=.list ds:=by
 cases d with
 | list es=>rw[Option.some.inj h]
 | _=>exact L2.no_ns h
theorem isTu_some {d:PyData}{ds:List PyData}(h:isTu d=some ds):d=.tuple ds:=by
 cases d with
 | tuple es=>rw[Option.some.inj h]
 | _=>exact L2.no_ns h
def outR:Out->Option PyData
 | .rt d=>some d
 | _=>none
def outI (o:Option Out):Option (PyData×List PyData):=(o.bind outR).bind fun d=>(isTu d).bind fun ds=>(two ds).bind fun p=>(isL p.2).map fun es=>(p.1,es)
def runI (n m:Nat)(B:Rho->Option Out)(ds:List PyData):Option (PyData×List PyData):=if ds.length=n then outI (B (ds.map some++List.replicate m none)) else none
theorem runI_some {n m:Nat}{B:Rho->Option Out}{ds:List PyData}{r:PyData×List PyData}(h:runI n m B ds=some r):ds.length=n∧B (ds.map some++List.replicate m none)=some (.rt (.tuple [r.1,.list r.2])):=by
 unfold runI at h
 split at h
 ·refine⟨by assumption,?_⟩
  obtain⟨d,h0,h⟩:=bind_some h
  obtain⟨o,h1,h2⟩:=bind_some h0
  obtain⟨es,h3,h⟩:=bind_some h
  obtain⟨p,h4,h⟩:=bind_some h
  obtain⟨ls,h5,rfl⟩:=map_some h
  rw[h1]
  cases o with
  | rt e=>
   obtain rfl:=Option.some.inj h2
   rw[isTu_some h3,two_some h4,isL_some h5]
  | _=>exact L2.no_ns h2
 ·exact L2.no_ns h
theorem fn_autoI {P:Program}{w:World}{K:PySem.W.Frag}{mg:Str->Option Value}{base:Heap}{x qual:Str}{st:Stmt}{f:Addr}{fd:FuncData}{N ps:List Str}{k j:Nat}{T:Ty}(O:Addr->Ow)(F:Fun K x qual st f fd)(S:FnScope N ps (defScope st))
  (hj:∀ l,(O l).s.lookup j=some (.io l)) (hr':∀ l,(O l).r=T) (idx:List Nat) (hix:∀ l,(O l).s.map (·.1)=idx) (hO:∀ i∈idx,i=j∨ps.length≤i) (B:Rho->Option Out)
  (hbody:∀ (l:Addr) (cdv:Value),CdOk K f cdv->∀ (A:Around) (outer:List Env) (s:Shared) (H:Hp) (E:XK),Room k (A.deeper (envOfC qual (defScope st) s.heap.objs.size f cdv)) ->
   PSI (cxOf CX0 P w K mg base N qual (defScope st) f cdv A outer s H E).nox (O l) l (defBody st) B) :
  FnOk P w K mg base CX0 (k+1) f fd ps (spIO K j T (runI ps.length (N.length - ps.length) B)):=by
 refine fn_okC F S (fun vs H Q E h=>?_) (fun cdv hk A outer s H vs Q E hr h=>?_)
 ·obtain⟨hid,l,ws,es0,ds,r,h1,h2,h3,h4,h5,h6,h7,h8,h9,q⟩:=h
  rw[← h6]
  exact (runI_some h9).1
 ·obtain⟨hid,l,ws,es0,ds,r,h1,h2,h3,h4,h5,h6,h7,h8,h9,q⟩:=h
  obtain⟨hl,hB⟩:=runI_some h9
  refine⟨_,hbody l cdv hk A outer s H E hr,?_⟩
  have E0:EnvOk K (O l) hid (del H fun b=>b=l) (start N vs) H (ds.map some++List.replicate (N.length - ps.length) none) [l]:=by
   have get:∀ (i:Nat) (d:PyData),(ds.map some++List.replicate (N.length - ps.length) none)[i]?=some (some d)->ds[i]?=some d∧∃ v,vs[i]?=some v∧(start N vs)[i]?=some (some v):=fun i d e=>by
    by_cases hi:i<ds.length
    ·rw[List.getElem?_append_left (by simpa using hi),List.getElem?_map] at e
     obtain⟨d',e1,e2⟩:=Option.map_eq_some_iff.mp e
     obtain rfl:=Option.some.inj e2
     have hv:i<vs.length:=by omega
     refine⟨e1,vs[i],List.getElem?_eq_getElem hv,?_⟩
     unfold start
     rw[List.getElem?_append_left (by simpa using hv),List.getElem?_map,List.getElem?_eq_getElem hv]
     rfl
    ·rw[List.getElem?_append_right (by simpa using Nat.le_of_not_lt hi),List.getElem?_replicate] at e
     split at e <;> cases e
   refine⟨by unfold start;simp[h6,hl];omega,fun b o e=>?_,fun i d hi e=>?_,⟨fun i=>if i=j then [l] else [],fun i t d hi e=>?_,fun i m p him hp hm=>?_,fun i p hp=>?_⟩,fun m hm=>?_,h1,fun z=>?_⟩
   ·by_cases hb:b=l
    ·rw[hb,del_eq] at e;cases e
    ·rw[del_neq hb] at e
     rw[del_out fun z=>hb (List.mem_singleton.mp z)]
     exact e
   ·obtain⟨e1,v,e2,e3⟩:=get i d e
    refine⟨v,e3,h8 i v d (fun z=>?_) e2 e1⟩
    rw[z,hj l] at hi;cases hi
   ·obtain⟨e1,v,e2,e3⟩:=get i d e
    rcases hO i (hix l▸lookTy_mem hi) with rfl | z
    ·rw[hj l] at hi
     obtain rfl:=Option.some.inj hi
     rw[h3] at e2
     obtain rfl:=Option.some.inj e2
     rw[h7] at e1
     obtain rfl:=Option.some.inj e1
     dsimp only
     rw[if_pos rfl]
     exact⟨_,e3,.io h4 h5⟩
    ·have:=(List.getElem?_eq_some_iff.mp e1).1
     omega
   ·dsimp only at hp hm
    split at hp
    ·split at hm
     ·subst_vars;exact him rfl
     ·cases hm
    ·cases hp
   ·dsimp only at hp
    split at hp
    ·exact hp
    ·cases hp
   ·rw[List.mem_singleton.mp hm]
    exact⟨⟨.l ws,h4⟩,h2⟩
   ·have:=hj l
    rw[z] at this
    exact L2.no_ns this
  refine⟨hid,_,_,[l],_,E0,hB,r.1,r.2,rfl,fun v as H' ws' s' hl' hD n Dv=>q v as H' ws' s' hl' hD (fun p hp=>?_) (by rw[← hr' l];exact Dv)⟩
  have:=(n p hp).1
  rw[del_neq (n p hp).2] at this
  exact this
end L2
namespace L2
variable [Reg]
def DefI (P:Program)(w:World)(K:PySem.W.Frag)(mg:Str->Option Value)(base:Heap)(k:Nat)(x:Str)(ps:List Str)(j:Nat)(T:Ty)(F:List PyData->Option (PyData×List PyData)):Prop:=
 ∃ f fd,FnOk P w K mg base CX0 k f fd ps (spIO K j T F)∧mg x=some (.ref f)∧PySem.W.keepIn K (.ref f)=true∧Binds K fd ps []∧PySem.W.nsIn K mainGlobals x=some (some (.ref f))
section
variable {X:Cx}{O:Ow}{a:Expr}{es:List Expr}{pos p:Pos}{fa fs:Rho->Option (List PyData)}{k:Nat}{ps:List Str}{x:Str}{T:Ty}{F:List PyData->Option (PyData×List PyData)}
end
end L2
namespace L2
variable [Reg]
section
variable {X:Cx}{O:Ow}{a b e:Expr}{fa fb f:Rho->Option PyData}{pos p:Pos}
end
section
variable {K:PySem.W.Frag}{O:Ow}{hid:Addr->Prop}{H0 H H':Hp}{σ:St}{ρ:Rho}{ow:List Addr}
theorem EnvOk.snocT (e:EnvOk K O hid H0 σ H ρ ow){i:Nat}{T:Ty}{ds:List PyData}(hi:O.s.lookup i=some (.lst T))(hρ:ρ[i]?=some (some (.list ds))) :
  ∃ l vs,σ[i]?=some (some (.ref l))∧H l=some (.lst vs)∧vs.length=ds.length∧l∈ow∧∀ H' v d as,Same H H'->(∀ p∈as,H p=none)->DenO K H' (del H' (uni hid (as++ow))) T v d as->EnvOk K O hid H0 σ (upd H' l (.lst (vs++[v]))) (ρ.set i (some (.list (ds++[d])))) (as++ow):=by
 obtain⟨A,a1,a2,a3⟩:=e.own
 obtain⟨v0,hv,D⟩:=a1 i _ _ hi hρ
 generalize hA:A i=Ai at D
 cases D with
 | @lst _ l vs _ inner q r n=>
  have hA':l∈A i:=by rw[hA];exact List.mem_cons_self
  have hin:∀ p∈inner,p∈A i:=fun p hp=>by rw[hA];exact List.mem_cons_of_mem _ hp
  have hl:=a3 i l hA'
  refine ⟨l,vs,hv,q,r.length,hl,(fun H' v d as s nf Dv=>?_)⟩
  have nl:∀ p∈as,¬ uni hid ow p:=fun p hp=>e.fresh (nf p hp)
  have ed:del (upd H' l (.lst (vs++[v]))) (uni hid (as++ow))=del H' (uni hid (as++ow)):=del_upd (uni_in (List.mem_append_right _ hl))
  have eo:del (upd H' l (.lst (vs++[v]))) (fun b=>b∈as++ow)=del H' (fun b=>b∈as++ow):=del_upd (List.mem_append_right _ hl)
  have gen:∀ P Q:Addr->Prop,(∀ b,Q b->P b∨b∈as)->Same (del H P) (del H' Q):=fun P Q hq b u z=>by
   by_cases hb:P b
   ·rw[del_in hb] at z;cases z
   ·rw[del_out hb] at z
    rw[del_out fun y=>?_]
    ·exact s b u z
    ·rcases hq b y with y | y
     ·exact hb y
     ·rw[nf b y] at z;cases z
  have sub:Same (del H (uni hid ow)) (del H' (uni hid (as++ow))):=gen _ _ fun b z=>by
   rcases z with z | z
   ·exact .inl (.inl z)
   ·rcases List.mem_append.mp z with z | z
    ·exact .inr z
    ·exact .inl (.inr z)
  have subO:Same (del H fun b=>b∈ow) (del H' fun b=>b∈as++ow):=gen _ _ fun b z=>by
   rcases List.mem_append.mp z with z | z
   ·exact .inr z
   ·exact .inl z
  have up:∀ j p,p∈(if j=i then l::(inner++as) else A j)->p∈A j∨(j=i∧p∈as):=fun j p hp=>by
   by_cases hj:j=i
   ·rw[if_pos hj] at hp
    rcases List.mem_cons.mp hp with rfl | hp
    ·exact .inl (by rw[hj];exact hA')
    ·rcases List.mem_append.mp hp with hp | hp
     ·exact .inl (by rw[hj];exact hin p hp)
     ·exact .inr ⟨hj,hp⟩
   ·rw[if_neg hj] at hp;exact .inl hp
  have keep:∀ p o,p≠l->H p=some o->upd H' l (.lst (vs++[v])) p=some o:=fun p o hp z=>by rw[upd_ne hp];exact s p o z
  refine⟨by simpa using e.len,by rw[eo];exact e.base.trans subO,fun j x hj q=>?_,⟨fun j=>if j=i then l::(inner++as) else A j,fun j t' x hj q'=>?_,fun j m p hjm hp hm=>?_,fun j p hp=>?_⟩,fun l2 h2=>?_,fun b hb=>?_,fun z=>by rw[z] at hi;cases hi⟩
  ·have hne:j≠i:=fun z=>by rw[z,hi] at hj;cases hj
   rw[List.getElem?_set_ne (Ne.symm hne)] at q
   rw[ed]
   obtain⟨w,a,b⟩:=e.val j x hj q
   exact⟨w,a,b.mono sub⟩
  ·rw[ed]
   rcases set_two q' with ⟨rfl,z,hz⟩ | ⟨hne,z⟩
   ·obtain rfl:=Option.some.inj z
    rw[hi] at hj
    obtain rfl:=Option.some.inj hj
    refine⟨.ref l,hv,?_⟩
    dsimp only
    rw[if_pos rfl]
    refine .lst upd_same (DenOs.snoc (Dv.mono (Same.refl _) fun p hp o z=>by rw[upd_ne (fun y=>by rw[y] at hp;exact nl l hp (.inr hl))];exact z) (r.mono sub fun p hp o z=>keep p o (fun y=>n (y▸hp)) z) fun p hp hp2=>nl p hp2 (.inr (a3 j p (hin p hp)))) fun z=>?_
    rcases List.mem_append.mp z with z | z
    ·exact n z
    ·exact nl l z (.inr hl)
   ·obtain⟨w,a,b⟩:=a1 j t' x hj z
    refine⟨w,a,?_⟩
    dsimp only
    rw[if_neg hne]
    exact b.mono sub fun p hp o z=>keep p o (fun y=>a2 j i p hne hp (by rw[y];exact hA')) z
  ·dsimp only at hp hm
   rcases up j p hp with h1 | ⟨h1,h1'⟩ <;> rcases up m p hm with h2 | ⟨h2,h2'⟩
   ·exact a2 j m p hjm h1 h2
   ·exact nl p h2' (.inr (a3 j p h1))
   ·exact nl p h1' (.inr (a3 m p h2))
   ·exact hjm (h1.trans h2.symm)
  ·dsimp only at hp
   rcases up j p hp with h1 | ⟨_,h1⟩
   ·exact List.mem_append_right _ (a3 j p h1)
   ·exact List.mem_append_left _ h1
  ·rcases List.mem_append.mp h2 with h2 | h2
   ·obtain⟨ws,hw⟩:=Dv.lists l2 h2
    exact⟨⟨ws,by rw[upd_ne (fun y=>by rw[y] at h2;exact nl l h2 (.inr hl))];exact hw⟩,fun z=>nl l2 h2 (.inl z)⟩
   ·obtain⟨⟨vs2,q2⟩,n2⟩:=e.isl l2 h2
    refine⟨?_,n2⟩
    by_cases hne:l2=l
    ·subst hne;exact⟨.l _,upd_same⟩
    ·exact⟨vs2,keep l2 _ hne q2⟩
  ·obtain⟨ws,hw⟩:=e.ishL b hb
   exact⟨ws,keep b _ (fun z2=>(e.isl l hl).2 (z2▸hb)) hw⟩
end
section
variable {X:Cx}{O:Ow}{e:Expr}{f:Rho->Option PyData}{pos:Pos}{T:Ty}
theorem s_appendT {i:Nat}{x:Str}{p apos cpos:Pos}(hx:PE X (.Name x p) (tVar i))(he:PFt X O T e f)(hO:O.s.lookup i=some (.lst T):=by rfl)
  (hbase:attributeBase (.Name x p) "append" X.env (eval (.Name x p) X.env)=eval (.Name x p) X.env:=by rfl)
  (hfew:((backTo cpos (starEach [e] X.env)).all (fun x=>!x.1)&&(backToKw cpos (keywordEach [] X.env)).all (fun x=>x.1.isSome)&&decide ([e].length+([]:List Keyword).length+(if ([]:List Keyword).isEmpty then 0 else 1)<30))=true:=by rfl)
  (hline:(apos.endLine==cpos.line)=true:=by rfl) (hst:starEach [e] X.env=(false,eval e X.env)::starEach [] X.env:=by rfl) (hplain:(backTo cpos (starEach [] X.env)).any (·.1)=false:=by rfl)
  (hs:swapsWith (.Call (.Attribute (.Name x p) "append" apos) [e] [] cpos) none pos.line X.env=pure false:=by rfl) :
  PSv X O (.Expr (.Call (.Attribute (.Name x p) "append" apos) [e] [] cpos) pos) (fun ρ=>(f ρ).bind (appD i ρ)):=
 (ps_expr (pe_bm PySem.F.plainAttrs_list PySem.F.slot_list_append PySem.F.type_list_append mt_append hx (pa_cons he pa_nil hst) hbase hfew hline hst hplain) hs).imp fun D σ H zpat=>by
  obtain⟨hid,H0,ρ,ow,o,E,hf,k⟩:=zpat
  obtain⟨d,g1,g2⟩:=bind_some hf
  obtain⟨ds,g3,g4⟩:=bind_some g2
  obtain⟨dl,g5,g6⟩:=bind_some g3
  rw[listD_some g6] at g5
  split at g4
  case isFalse=>cases g4
  rename_i hlt
  obtain rfl:=Option.some.inj g4
  have hlt':=of_decide_eq_true hlt
  have hz:1000<sizeLine:=by decide
  obtain⟨l,vs,h1,h2,h3,h4,h5⟩:=E.snocT hO (join_some g5)
  refine⟨.ref l,h1,.inl ⟨rfl,vs,SqL.of h2⟩,hid,H0,ρ,ow,d,E,g1,fun v as H' s nf Dv=>⟨l,vs,v,rfl,rfl,s _ _ h2,by omega,k _ _ _ ?_ (h5 H' v d as s nf Dv)⟩⟩
  rw[del_upd (uni_in (List.mem_append_right _ h4))]
  intro b u z
  by_cases hb:uni hid ow b
  ·rw[del_in hb] at z;cases z
  ·rw[del_out hb] at z
   rw[del_out fun y=>?_]
   ·exact s b u z
   ·rcases y with y | y
    ·exact hb (.inl y)
    ·rcases List.mem_append.mp y with y | y
     ·rw[nf b y] at z;cases z
     ·exact hb (.inr y)
end
end L2
namespace L2
variable [Reg]
def lookD (f:Str):List PyData->List PyData->Option PyData
 | .str n::ns,d::ds=>if n=f then some d else lookD f ns ds
 | _,_=>none
def fldD (cls f:Str):PyData->Option PyData
 | .dict [(.bool false,.str c),(.none,.tuple ns),(.none,.tuple fd)]=>if c=cls then lookD f ns fd else none
 | _=>none
theorem lookD_some {K:PySem.W.Frag}{H:Hp}{f:Str}{r:PyData}:∀ {fs:List (Str×V)} {fd:List PyData},DenL K H (fs.map (·.2)) fd->lookD f ((fs.map (·.1)).map .str) fd=some r->∃ w,fs.lookup f=some w∧Den K H w r
 | [],fd,_,h=>by cases h
 | (n,v)::fs,fd,D,h=>by
  cases D with
  | cons D1 D2=>
   rename_i d ds
   have h':(if n=f then some d else lookD f ((fs.map (·.1)).map .str) ds)=some r:=h
   by_cases e:n=f
   ·rw[if_pos e] at h'
    cases h'
    exact⟨v,by rw[List.lookup_cons,e,beq_self_eq_true],D1⟩
   ·rw[if_neg e] at h'
    obtain⟨w,h1,h2⟩:=lookD_some D2 h'
    refine⟨w,?_,h2⟩
    rw[List.lookup_cons,show (f==n)=false from beq_eq_false_iff_ne.mpr (Ne.symm e)]
    exact h1
theorem den_fld {K:PySem.W.Frag}{H:Hp}{v:V}{d r:PyData}{cls f:Str}(h:Den K H v d)(q:fldD cls f d=some r):∃ a C dx fs w,v=.ref a∧H a=some (.ins C dx fs)∧PySem.W.nsIn K mainGlobals cls=some (some (.ref C))∧fs.lookup f=some w∧Den K H w r:=by
 cases h with
 | @obj a c fs fd h D=>
  have q':(if c=cls then lookD f ((fs.map (·.1)).map .str) fd else none)=some r:=q
  by_cases e:c=cls
  ·rw[if_pos e] at q'
   subst e
   obtain⟨C,dx,h1,h2⟩:=id (h)
   obtain⟨w,h3,h4⟩:=lookD_some D q'
   exact ⟨a,C,dx,fs,w,rfl,h1,h2,h3,h4⟩
  ·rw[if_neg e] at q';cases q'
 | _=>cases q
def FldOk (K:PySem.W.Frag)(cls f:Str):Prop:=∀ C,PySem.W.nsIn K mainGlobals cls=some (some (.ref C))->Cls K C∧NoAttr K C f
section
variable {X:Cx}{O:Ow}{a e:Expr}{fa f:Rho->Option PyData}{pos p:Pos}{cls fld:Str}
theorem r_fld (hC:FldOk X.K cls fld)(ha:PR X O a fa)(hb:attributeBase a fld X.env (eval a X.env)=eval a X.env:=by rfl):PR X O (.Attribute a fld pos) (fun ρ=>(fa ρ).bind (fldD cls fld)):=
 (pe_fld ha hb).imp fun σ H Q zpat=>by
  obtain⟨hid,H0,ρ,ow,r,E,hf,k⟩:=zpat
  obtain⟨d,h1,h2⟩:=bind_some hf
  refine⟨hid,H0,ρ,ow,d,E,h1,fun x H1 s1 D1=>?_⟩
  obtain⟨a',C,dx,fs,w,zq5,g1,g2,g3,g4⟩:=den_fld D1 h2
  subst zq5
  exact ⟨a',C,dx,fs,w,rfl,del_same _ _ _ _ g1,(hC C g2).1,(hC C g2).2,g3,k w H1 s1 g4⟩
theorem v_fld (hC:FldOk X.K cls fld)(ha:PV X O a fa)(hb:attributeBase a fld X.env (eval a X.env)=eval a X.env:=by rfl):PV X O (.Attribute a fld pos) (fun ρ=>(fa ρ).bind (fldD cls fld)):=
 (pe_fld ha hb).imp fun σ H Q zpat=>by
  obtain⟨hid,H0,ρ,ow,r,E,hf,k⟩:=zpat
  obtain⟨d,h1,h2⟩:=bind_some hf
  refine⟨hid,H0,ρ,ow,d,E,h1,fun x H1 s1 D1=>?_⟩
  obtain⟨a',C,dx,fs,w,zq5,g1,g2,g3,g4⟩:=den_fld D1 h2
  subst zq5
  exact ⟨a',C,dx,fs,w,rfl,del_same _ _ _ _ g1,(hC C g2).1,(hC C g2).2,g3,k w H1 s1 g4⟩
end
theorem SqT.cut {K:PySem.W.Frag}{G G':Hp}(e:∀ a o,G a=some o->(∀ C dx fs,o≠.ins C dx fs)->G' a=some o){a:Addr}{vs:List V}(q:SqT K G a vs):SqT K G' a vs:=by
 rcases q with (q | ⟨o,q⟩) | q
 ·exact .inl (.inl (e _ _ q fun _ _ _ z=>by cases z))
 ·exact .inl (.inr ⟨o,e _ _ q fun _ _ _ z=>by cases z⟩)
 ·exact .inr q
theorem Den.cut {K:PySem.W.Frag}{G G':Hp}(e:∀ a o,G a=some o->(∀ C dx fs,o≠.ins C dx fs)->G' a=some o){v:V}{d:PyData}(z:Den K G v d):lf d=true->Den K G' v d:=
 Den.rec (motive_1:=fun v d _=>lf d=true->Den K G' v d) (motive_2:=fun vs ds _=>lf.go ds=true->DenL K G' vs ds) (fun _=>.non) (fun b _=>.bl b) (fun i _=>.int i) (fun x _=>.str x) (fun q _ r h=>.tup (q.cut e) (r h)) (fun _ _ _ h=>by cases h) (fun _ _ _ h=>by cases h) (fun _ _ _ h=>by cases h) (fun _ _ _ h=>by cases h) (fun _ _ _ h=>by cases h) (fun _=>.nil) (fun _ _ a b h=>by rw[lf.go,Bool.and_eq_true] at h;exact .cons (a h.1) (b h.2)) z
inductive KB (K:PySem.W.Frag)(x:Addr)(f1 f2:Str)(B:Rho->Option (PyData×PyData))(D:Ends)(σ:St)(H:Hp):Prop
 | mk (hid:Addr->Prop) (H0:Hp) (ρ:Rho) (r:PyData×PyData) (C dx:Addr) (E:EnvOk K O0 hid H0 σ H ρ []) (hx:σ[0]?=some (some (.ref x))) (hH:H x=some (.ins C dx [])) (hc:Cls K C) (n1:NoAttr K C f1) (n2:NoAttr K C f2) (hB:B ρ=some r) (l1:lf r.1=true) (l2:lf r.2=true)
  (k:∀ σ' H' v1 v2,Same (del H fun b=>b=x) H'->H' x=some (.ins C dx [(f1,v1),(f2,v2)])->Den K (del H' fun b=>hid b∨b=x) v1 r.1->Den K (del H' fun b=>hid b∨b=x) v2 r.2->D.nx σ' H'):KB K x f1 f2 B D σ H
section
variable {X:Cx}{e:Expr}{st:Stmt}{rest:List Stmt}{f:Rho->Option PyData}{pos:Pos}{x:Addr}{f1 f2:Str}{B:Rho->Option (PyData×PyData)}
end
inductive SpNew (K:PySem.W.Frag)(cls f1 f2:Str)(F:List PyData->Option (PyData×PyData))(vs:List V)(H:Hp)(Q:VK):Prop
 | mk (hid:Addr->Prop) (x dx C:Addr) (us:List V) (ds:List PyData) (r:PyData×PyData) (e:vs=.ref x::us) (hH:H x=some (.ins C dx [])) (hn:PySem.W.nsIn K mainGlobals cls=some (some (.ref C))) (h1:∀ b,hid b->∃ vs:OwO,H b=some vs.ho) (D:DenL K (del H hid) us ds) (hF:F ds=some r)
  (k:∀ H' v1 v2,Same (del H fun b=>b=x) H'->H' x=some (.ins C dx [(f1,v1),(f2,v2)])->Den K (del H' fun b=>hid b∨b=x) v1 r.1->Den K (del H' fun b=>hid b∨b=x) v2 r.2->Q .non H'):SpNew K cls f1 f2 F vs H Q
def spNew (K:PySem.W.Frag)(cls f1 f2:Str)(F:List PyData->Option (PyData×PyData)):Sp:=fun vs H Q _=>SpNew K cls f1 f2 F vs H Q
theorem start_envN {K:PySem.W.Frag}{hid:Addr->Prop}{H:Hp}{N ps:List Str}{us:List V}{ds:List PyData}{z:Addr}(D:DenL K (del H hid) us ds)(hlen:ds.length+1=ps.length)(hl:∀ b,hid b->∃ vs:OwO,H b=some vs.ho) :
  EnvOk K O0 hid H (start N (.ref z::us)) H (none::(ds.map some++List.replicate (N.length - ps.length) none)) []:=by
 have hdl:=D.length
 refine⟨by unfold start;simp[hdl];omega,fun b o e=>by rw[del_out (by simp)];exact e,fun i d _ e=>?_,⟨fun _=>[],fun i t d hi _=>(by cases hi),fun i j p _ z=>(by cases z),fun i p z=>(by cases z)⟩,fun l z=>(by cases z),hl,fun _=>rfl⟩
 cases i with
 | zero=>cases e
 | succ i=>
  rw[List.getElem?_cons_succ] at e
  by_cases hi:i<ds.length
  ·rw[List.getElem?_append_left (by simpa using hi),List.getElem?_map] at e
   obtain⟨d',e1,e2⟩:=Option.map_eq_some_iff.mp e
   cases e2
   obtain⟨v,e3,e4⟩:=D.get e1
   refine⟨v,?_,by rw[uni_nil];exact e4⟩
   unfold start
   rw[List.map_cons,List.cons_append,List.getElem?_cons_succ,List.getElem?_append_left (by simpa [hdl] using hi),List.getElem?_map,e3]
   rfl
  ·rw[List.getElem?_append_right (by simpa using Nat.le_of_not_lt hi),List.getElem?_replicate] at e
   split at e <;> cases e
def DefN (P:Program)(w:World)(K:PySem.W.Frag)(mg:Str->Option Value)(base:Heap)(k:Nat)(cls:Str)(ps:List Str)(f1 f2:Str)(F:List PyData->Option (PyData×PyData)):Prop:=
 ∃ C f fd,Mk K C f∧FnOk P w K mg base CX0 k f fd ps (spNew K cls f1 f2 F)∧mg cls=some (.ref C)∧PySem.W.nsIn K mainGlobals cls=some (some (.ref C))∧Binds K fd ps []
section
variable {X:Cx}{O:Ow}{a:Expr}{es:List Expr}{pos p:Pos}{fs:Rho->Option (List PyData)}{k:Nat}{ps:List Str}{cls f1 f2:Str}{F:List PyData->Option (PyData×PyData)}
end
end L2
namespace L2
variable [Reg]
def veil (ks:List Nat)(ρ:Rho):Rho:=ks.foldl (fun r i=>r.set i none) ρ
def veilF (ks:List Nat)(f:Rho->Option PyData)(ρ:Rho):Option PyData:=f (veil ks ρ)
theorem veil_len:∀ (ks:List Nat) (ρ:Rho),(veil ks ρ).length=ρ.length
 | [],_=>rfl
 | k::ks,ρ=>by
  show (veil ks (ρ.set k none)).length=_
  rw[veil_len ks,List.length_set]
theorem veil_get:∀ (ks:List Nat) (ρ:Rho) (i:Nat) (d:PyData),(veil ks ρ)[i]?=some (some d)->i∉ks∧ρ[i]?=some (some d)
 | [],ρ,i,d,h=>⟨by simp,h⟩
 | k::ks,ρ,i,d,h=>by
  obtain⟨h1,h2⟩:=veil_get ks (ρ.set k none) i d h
  by_cases e:i=k
  ·subst e
   have hl:=(List.getElem?_eq_some_iff.mp h2).1
   rw[List.length_set] at hl
   rw[List.getElem?_set_self hl] at h2
   cases h2
  ·rw[List.getElem?_set_ne (Ne.symm e)] at h2
   exact⟨fun z=>(List.mem_cons.mp z).elim e h1,h2⟩
theorem look_none:∀ {l:List (Nat×Ty)} {i:Nat},i∉l.map (·.1)->l.lookup i=none
 | [],_,_=>rfl
 | (j,t)::r,i,h=>by
  rw[List.lookup_cons,show (i==j)=false from beq_eq_false_iff_ne.mpr fun z=>h (by rw[z];exact List.mem_cons_self)]
  exact look_none fun z=>h (List.mem_cons_of_mem _ z)
theorem EnvOk.veil {K:PySem.W.Frag}{O:Ow}{hid:Addr->Prop}{H0 H:Hp}{σ:St}{ρ:Rho}{ow:List Addr}(E:EnvOk K O hid H0 σ H ρ ow):EnvOk K O0 (uni hid ow) H σ H (L2.veil (O.s.map (·.1)) ρ) []:=by
 refine⟨by rw[veil_len];exact E.len,fun b o e=>by rw[del_out (by simp)];exact e,fun i d _ e=>?_,⟨fun _=>[],fun i t d hi _=>(by cases hi),fun i j p _ z=>(by cases z),fun i p z=>(by cases z)⟩,fun l z=>(by cases z),E.uniL,fun _=>rfl⟩
 obtain⟨h1,h2⟩:=veil_get _ _ _ _ e
 obtain⟨v,h3,h4⟩:=E.val i d (look_none h1) h2
 exact⟨v,h3,by rw[uni_nil];exact h4⟩
section
variable {X:Cx}{O:Ow}{e:Expr}{f:Rho->Option PyData}{T:Ty}
theorem PFt.v (h:PFt X O T e f):PV X O e f:=h.imp fun σ H Q zpat=>by
 obtain⟨hid,H0,ρ,ow,d,E,hf,k⟩:=zpat
 refine⟨hid,H0,ρ,ow,d,E,hf,fun v as H' s n D=>k v H' s (D.raw (del_sub fun b z=>?_) fun p hp o q=>?_)⟩
 ·rcases z with z | z
  ·exact .inl z
  ·exact .inr (List.mem_append_right _ z)
 ·rw[del_out (E.fresh (n p hp))]
  exact q
theorem PFt.fc (h:PFt X O (.lst .cl) e f):PFc X O e (fun ρ=>(f ρ).bind listD):=h.imp fun σ H Q zpat=>by
 obtain⟨hid,H0,ρ,ow,ds,E,hf,k⟩:=zpat
 obtain⟨d,h1,h2⟩:=bind_some hf
 rw[listD_some h2] at h1
 refine⟨hid,H0,ρ,ow,_,E,h1,fun v as H' s n D=>?_⟩
 cases D with
 | @lst _ l vs _ as q r m=>
  obtain⟨dl,zq1⟩:=r.dl
  subst zq1
  exact k l vs H' s (n l List.mem_cons_self) q dl
end
section
variable {X:Cx}{O:Ow}{i:Nat}{x:Str}{pos' spos:Pos}{elt tg iter:Expr}{ifs:List Expr}{scope:Scope}{pos:Pos}{fi:Rho->Option (List PyData)}{S:PyData->Rho->Option Rho}{ft:Rho->Option Bool}{fe:Rho->Option PyData}{k:Nat}{N:List Str}{ix:List Nat}{T:Ty}
end
def clsBody (s:Stmt):List Stmt:=match s with
 | .ClassDef _ _ _ b _ _ _ _ _ _ _=>b
 | _=>[]
inductive ClsAt (K:PySem.W.Frag)(cls:Str)(st:Stmt)(f1 f2:Str):Prop
 | mk (C f:Addr) (fd:FuncData) (a:PySem.W.nsIn K mainGlobals cls=some (some (.ref C))) (m1:PySem.W.makesIn K C=true) (m2:PySem.W.findIn K (.ref C) "__init__"=some (some (.ref f))) (m3:PySem.W.isFn K (.ref f)=true) (m4:PySem.W.keepIn K (.ref C)=true)
  (c1:PySem.W.plainGet K C Str.empty=true) (c2:PySem.W.hasDictIn K C=true) (c3:PySem.W.plainOver K C=true) (c4:PySem.W.findIn K (.ref C) "__setattr__"=some (some (.builtin "object.__setattr__"))) (n1:PySem.W.findIn K (.ref C) f1=some none) (n2:PySem.W.findIn K (.ref C) f2=some none)
  (F:Fun K "__init__" (cls++".__init__") st f fd):ClsAt K cls st f1 f2
section
variable {P:Program}{w:World}{K:PySem.W.Frag}{h:Heap}{mg:Str->Option Value}{base:Heap}{cls f1 f2:Str}{st:Stmt}{k:Nat}{ps:List Str}
theorem ClsAt.ok {F:List PyData->Option (PyData×PyData)}(d:ClsAt K cls st f1 f2)(X:K.In h)(G:h.Ns mainGlobals mg)
  (hb:∀ (kV doc pm:Value) (an:Option Addr) (cdv ct:Value) (us:List Value),us.length=ps.length->bindArgs (PySem.W.fnOf "__init__" (cls++".__init__") (defArgs st) (defBody st) (defScope st) .none kV doc pm an cdv ct) ⟨us,[]⟩=pure (ps.zip us))
  (ok:∀ f fd,Fun K "__init__" (cls++".__init__") st f fd->FnOk P w K mg base CX0 k f fd ps (spNew K cls f1 f2 F)):DefN P w K mg base k cls ps f1 f2 F:=by
 cases d with
 | mk C f fd a m1 m2 m3 m4 c1 c2 c3 c4 n1 n2 D=>exact⟨C,f,fd,⟨m1,m2,m3,m4⟩,ok f fd D,PySem.W.mg_of X G a,a,D.binds hb⟩
end
end L2
namespace L2
variable [Reg]
inductive FnAt (K:PySem.W.Frag)(x:Str)(st:Stmt):Prop
 | mk (f:Addr) (fd:FuncData) (a:PySem.W.nsIn K mainGlobals x=some (some (.ref f))) (F:Fun K x x st f fd):FnAt K x st
section
variable {P:Program}{w:World}{K:PySem.W.Frag}{h:Heap}{mg:Str->Option Value}{base:Heap}{x:Str}{st:Stmt}{k:Nat}{ps:List Str}{T:Ty}
theorem FnAt.ok {F:List PyData->Option PyData}(d:FnAt K x st)(X:K.In h)(G:h.Ns mainGlobals mg)
  (hb:∀ (kV doc pm:Value) (an:Option Addr) (cdv ct:Value) (us:List Value),us.length=ps.length->bindArgs (PySem.W.fnOf x x (defArgs st) (defBody st) (defScope st) .none kV doc pm an cdv ct) ⟨us,[]⟩=pure (ps.zip us))
  (ok:∀ f fd,PySem.W.nsIn K mainGlobals x=some (some (.ref f))->Fun K x x st f fd->FnOk P w K mg base CX0 k f fd ps (spR K T F)):DefOk P w K mg base k x ps T F:=by
 cases d with
 | mk f fd a D=>exact⟨f,fd,ok f fd a D,PySem.W.mg_of X G a,D.kp,D.binds hb,a⟩
theorem FnAt.law {F:List PyData->Option PyData}{fa:Addr}{v0:Str}(d:FnAt K x st)(X:K.In h)(G:h.Ns mainGlobals mg)(hfa:mg x=some (.ref fa))
  (hb:∀ (kV doc pm:Value) (an:Option Addr) (cdv ct:Value) (s:Shared) (v:Value),BindsTo s (PySem.W.fnOf x x (defArgs st) (defBody st) (defScope st) .none kV doc pm an cdv ct) ⟨[v],[]⟩ [(v0,v)])
  (ok:∀ base f fd,Fun K x x st f fd->FnOk P w K mg base CX0 k f fd ps (spR K T F)) :
  ∃ fd:FuncData,(∀ (s:Shared) (v:Value),BindsTo s fd ⟨[v],[]⟩ [(v0,v)])∧∀ base:Heap,K.In base->base.Ns mainGlobals mg->FnOk P w K mg base CX0 k fa fd ps (spR K T F):=by
 cases d with
 | mk f fd a D=>
  cases hfa.symm.trans (PySem.W.mg_of X G a)
  refine⟨fd,?_,fun base _ _=>ok base _ fd D⟩
  obtain⟨oc,od,kV,doc,pm,an,cdv,ct,osl,e,_,_⟩:=D.ex
  subst e
  exact hb kV doc pm an cdv ct
end
def noName (K:PySem.W.Frag)(x:Str):Bool:=match PySem.W.nsIn K mainGlobals x with
 | some none=>true
 | _=>false
def noNames (K:PySem.W.Frag)(xs:List Str):Bool:=xs.all (noName K)
theorem noNames_get {K:PySem.W.Frag}{h:Heap}{mg:Str->Option Value}{xs:List Str}{x:Str}(X:K.In h)(G:h.Ns mainGlobals mg)(q:noNames K xs=true)(i:Nat)(hi:xs[i]?=some x):mg x=none:=by
 have h1:=List.all_eq_true.mp q x (List.mem_of_getElem? hi)
 refine PySem.W.mg_none_of X G ?_
 unfold noName at h1
 generalize PySem.W.nsIn K mainGlobals x=o at h1 ⊢
 cases o with
 | none=>exact L2.no_ft h1
 | some v=>cases v with
  | none=>rfl
  | some v=>exact L2.no_ft h1
end L2
namespace L2
def bd (a:Int)(n:Nat):Prop:=a.natAbs<2 ^ n
theorem bd.mono {a:Int}{m n:Nat}(h:bd a m)(hn:m≤n):bd a n:=Nat.lt_of_lt_of_le h (Nat.pow_le_pow_right (by decide) hn)
theorem bd.add {a b:Int}{n:Nat}(h:bd a n)(h':bd b n):bd (a+b) (n+1):=Nat.lt_of_le_of_lt (Int.natAbs_add_le a b) (by rw[Nat.pow_succ,Nat.mul_two];exact Nat.add_lt_add h h')
theorem bd.sub {a b:Int}{n:Nat}(h:bd a n)(h':bd b n):bd (a - b) (n+1):=by
 rw[Int.sub_eq_add_neg]
 exact bd.add h (show (-b).natAbs<2 ^ n from by rw[Int.natAbs_neg];exact h')
theorem bd.neg {a:Int}{n:Nat}(h:bd a n):bd (-a) n:=show (-a).natAbs<2 ^ n from by rw[Int.natAbs_neg];exact h
theorem bd.big {a:Int}{n:Nat}(h:bd a n)(hn:n≤1000):isBig a=true:=by
 unfold isBig L2.big
 exact decide_eq_true (h.mono hn)
theorem consD_ss (d:PyData)(r:List PyData):consD (some d) (some r)=some (d::r):=rfl
theorem testD_s (b:Bool):testD (some (.bool b))=some b:=rfl
theorem condO_t {α:Type}(a b:Option α):condO (some true) a b=a:=rfl
theorem condO_f {α:Type}(a b:Option α):condO (some false) a b=b:=rfl
theorem andB_t (y:Option Bool):andB (some true) y=y:=rfl
theorem andB_f (y:Option Bool):andB (some false) y=some false:=rfl
theorem orB_t (y:Option Bool):orB (some true) y=some true:=rfl
theorem orB_f (y:Option Bool):orB (some false) y=y:=rfl
theorem andV_t (y:Option PyData):andV (some (.bool true)) y=y:=rfl
theorem andV_f (y:Option PyData):andV (some (.bool false)) y=some (.bool false):=rfl
theorem orV_t (y:Option PyData):orV (some (.bool true)) y=some (.bool true):=rfl
theorem orV_f (y:Option PyData):orV (some (.bool false)) y=y:=rfl
theorem notV_s (b:Bool):notV (some (.bool b))=some (.bool (!b)):=rfl
theorem setO_s (i:Nat)(ρ:Rho)(d:PyData):setO i ρ (some d)=some (.nx (ρ.set i (some d))):=rfl
theorem setLO_s (i:Nat)(ρ:Rho)(d:List PyData):setLO i ρ (some d)=some (.nx (ρ.set i (some (.list d)))):=rfl
theorem dropO_s (ρ:Rho)(d:PyData):dropO ρ (some d)=some (.nx ρ):=rfl
theorem forO_s (S:PyData->Rho->Option Rho)(F:Rho->Option Out)(ds:List PyData)(ρ:Rho):forO S F (some ds) ρ=forD S F ds ρ:=rfl
theorem compO_s {S:PyData->Rho->Option Rho}{ft:Rho->Option Bool}{fe:Rho->Option PyData}{ds:List PyData}{ρ:Rho}(h:ds.length≤1000):compO S ft fe (some ds) ρ=compD S ft fe ds ρ:=by
 unfold compO
 rw[Option.bind_some,if_pos (decide_eq_true h)]
theorem asgO_s (S:PyData->Rho->Option Rho)(ρ:Rho)(d:PyData):asgO S ρ (some d)=(S d ρ).map .nx:=rfl
def thenO (o:Option Out)(G:Rho->Option Out):Option Out:=o.bind fun o=>match o with
 | .nx ρ'=>G ρ'
 | .rt d=>some (.rt d)
 | .bk ρ'=>some (.bk ρ')
 | .ct ρ'=>some (.ct ρ')
theorem seqF_def (F G:Rho->Option Out)(ρ:Rho):seqF F G ρ=thenO (F ρ) G:=rfl
theorem thenO_nx (ρ:Rho)(G:Rho->Option Out):thenO (some (.nx ρ)) G=G ρ:=rfl
theorem thenO_rt (d:PyData)(G:Rho->Option Out):thenO (some (.rt d)) G=some (.rt d):=rfl
theorem short2 {f:List PyData->PyData}(a b:PyData):shortD f (some [a,b])=some (f [a,b]):=rfl
theorem shortL0:shortL (some [])=some []:=rfl
theorem shortL1 (a:PyData):shortL (some [a])=some [a]:=rfl
theorem shortL2 (a b:PyData):shortL (some [a,b])=some [a,b]:=rfl
theorem shortL3 (a b c:PyData):shortL (some [a,b,c])=some [a,b,c]:=rfl
theorem shortL4 (a b c d:PyData):shortL (some [a,b,c,d])=some [a,b,c,d]:=rfl
theorem lenD_l (ds:List PyData):lenD [.list ds]=some (.int ds.length):=rfl
theorem lenD_t (ds:List PyData):lenD [.tuple ds]=some (.int ds.length):=rfl
theorem listD_l (ds:List PyData):listD (.list ds)=some ds:=rfl
theorem tupD_t (ds:List PyData):tupD (.tuple ds)=some ds:=rfl
theorem seqD_l (ds:List PyData):seqD (.list ds)=some ds:=rfl
theorem outD_rt (d:PyData):outD (some (.rt d))=some d:=rfl
theorem outD_nx (ρ:Rho):outD (some (.nx ρ))=some .none:=rfl
theorem bind2_ss (x y:PyData)(g:PyData->PyData->Option PyData):bind2 (some x) (some y) g=g x y:=rfl
theorem fdivD_ok {a b:Int}(h0:0<b)(hb:isBig b=true):fdivD (.int a) (.int b)=some (.int (a / b)):=by
 have:b≠0:=by omega
 simp[fdivD,int2C,intO,hb,this,Int.fdiv_eq_ediv_of_nonneg a (by omega:0≤b)]
theorem modD_ok {a b:Int}(h0:0<b):modD (.int a) (.int b)=some (.int (a % b)):=by
 have:b≠0:=by omega
 simp[modD,int2C,intO,this,Int.fmod_eq_emod_of_nonneg a (by omega:0≤b)]
theorem addD_ok (a b:Int):addD (.int a) (.int b)=some (.int (a+b)):=rfl
theorem subD_ok (a b:Int):subD (.int a) (.int b)=some (.int (a - b)):=rfl
theorem ltD_ok (a b:Int):ltD (.int a) (.int b)=some (.bool (decide (a<b))):=rfl
theorem leD_ok (a b:Int):leD (.int a) (.int b)=some (.bool (decide (a≤b))):=rfl
theorem gtD_ok (a b:Int):gtD (.int a) (.int b)=some (.bool (decide (b<a))):=rfl
theorem geD_ok (a b:Int):geD (.int a) (.int b)=some (.bool (decide (b≤a))):=rfl
theorem shaped_int (a:Int):SeqAt.shaped (.int a)=true:=by simp[SeqAt.shaped,PyData.canLay0,PyData.depth]
theorem eqD_int (a b:Int):eqD (.int a) (.int b)=some (.bool (a==b)):=by simp[eqD,shaped_int,PyData.eqv]
theorem neD_int (a b:Int):neD (.int a) (.int b)=some (.bool (!(a==b))):=by simp[neD,shaped_int,PyData.eqv]
theorem filt {α:Type}{p:α->Bool}{x:α}(h:p x=true):(some x).filter p=some x:=by rw[Option.filter_some,if_pos h]
def encP (p:Int×Int):PyData:=.tuple [.int p.1,.int p.2]
def encL (ps:List (Int×Int)):PyData:=.list (ps.map encP)
theorem ix_pair0 (a b:PyData):ixD (.tuple [a,b]) (.int 0)=some a:=rfl
theorem ix_pair1 (a b:PyData):ixD (.tuple [a,b]) (.int 1)=some b:=rfl
theorem rng1_ok {n:Int}(h0:0≤n)(h1:n<1000):rng1D [.int n]=some (rngL 0 n.toNat):=by
 exact (show (if decide (n.natAbs<2 ^ 61)=true then some (rngL 0 n.toNat) else none)=_ from if_pos (decide_eq_true (by omega)))
theorem rngL_get {n i:Nat}{d:PyData}(h:(rngL 0 n)[i]?=some d):i<n∧d=.int (i:Nat):=by
 unfold rngL at h
 rw[List.getElem?_map] at h
 cases e:(List.range n)[i]? with
 | none=>rw[e] at h;cases h
 | some j=>
  rw[e] at h
  obtain⟨h1,h2⟩:=List.getElem?_eq_some_iff.mp e
  have h3:i=j:=by simpa using h2
  subst h3
  have h4:PyData.int (0+(i:Nat))=d:=Option.some.inj h
  exact⟨by simpa using h1,by rw[← h4,Int.zero_add]⟩
theorem forD_inv {S:PyData->Rho->Option Rho}{F:Rho->Option Out}(I:Nat->Rho->Prop):∀ (ds:List PyData) (k:Nat) (ρ:Rho),I k ρ ->
  (∀ (i:Nat) (d:PyData) (ρ:Rho),ds[i]?=some d->I (k+i) ρ->∃ ρ1 ρ2,S d ρ=some ρ1∧F ρ1=some (.nx ρ2)∧I (k+i+1) ρ2)->∃ ρ',forD S F ds ρ=some (.nx ρ')∧I (k+ds.length) ρ'
 | [],k,ρ,h,_=>⟨ρ,rfl,h⟩
 | d::r,k,ρ,h,step=>by
  obtain⟨ρ1,ρ2,h1,h2,h3⟩:=step 0 d ρ rfl h
  obtain⟨ρ',h4,h5⟩:=forD_inv I r (k+1) ρ2 h3 fun i d' ρ' hd hi=>by
   have:=step (i+1) d' ρ' (by simpa using hd) (by rw[show k+(i+1)=k+1+i by omega];exact hi)
   rwa [show k+(i+1)+1=k+1+i+1 by omega] at this
  refine⟨ρ',?_,?_⟩
  ·rw[forD,h1,Option.bind_some,h2,Option.bind_some]
   exact h4
  ·rw[List.length_cons,show k+(r.length+1)=k+1+r.length by omega]
   exact h5
theorem compD_map {α β:Type}{S:PyData->Rho->Option Rho}{fe:Rho->Option PyData}(ea:α->PyData)(eb:β->PyData)(g:α->β)(R:Rho->Prop)(ok:α->Prop)
  (hS:∀ x ρ,ok x->R ρ->∃ ρ1,S (ea x) ρ=some ρ1∧R ρ1∧fe ρ1=some (eb (g x))):∀ (xs:List α) (ρ:Rho),R ρ->(∀ x∈xs,ok x)->compD S (fun _=>some true) fe (xs.map ea) ρ=some ((xs.map g).map eb)
 | [],ρ,_,_=>rfl
 | x::r,ρ,h,ho=>by
  obtain⟨ρ1,h1,h2,h3⟩:=hS x ρ (ho x List.mem_cons_self) h
  rw[List.map_cons,compD,h1]
  simp only[Option.bind_some,if_true,h3]
  rw[compD_map ea eb g R ok hS r ρ1 h2 fun y hy=>ho y (List.mem_cons_of_mem _ hy)]
  rfl
structure Fr1 (p:Int×Int):Prop where
 pos:0<p.2
 co:Int.gcd p.1 p.2=1
end L2
namespace L2
theorem tryF_ex {i:Nat}{c:List Str}{H:Rho->Option Out}{ρ ρ':Rho}{x:PyData}(h:c.contains (clsD x)=true)(hh:H (ρ.set i (some x))=some (.nx ρ')):tryF i c H (some (.ex x ρ))=some (.nx (ρ'.set i none)):=by
 show (if c.contains (clsD x)=true then (H (ρ.set i (some x))).map (Out.unset i) else none)=_
 rw[if_pos h,hh]
 rfl
def isTr:Option Bool->Bool
 | some true=>true
 | _=>false
def isFa:Option Bool->Bool
 | some false=>true
 | _=>false
theorem isTr_eq {x:Option Bool}(h:isTr x=true):x=some true:=by
 unfold isTr at h
 split at h
 ·rfl
 ·exact L2.no_ft h
theorem isFa_eq {x:Option Bool}(h:isFa x=true):x=some false:=by
 unfold isFa at h
 split at h
 ·rfl
 ·exact L2.no_ft h
theorem and2 {a b:Bool}(h:(a&&b)=true):a=true∧b=true:=by
 rw[Bool.and_eq_true] at h
 exact h
end L2
namespace L2
variable [Reg]
section
variable {P:Program}{w:World}{K:PySem.W.Frag}{h:Heap}{mg:Str->Option Value}{base:Heap}{x:Str}{st:Stmt}{k:Nat}{ps:List Str}{T:Ty}
theorem FnAt.okX {F:List PyData->Option RX}(d:FnAt K x st)(X:K.In h)(G:h.Ns mainGlobals mg)
  (hb:∀ (kV doc pm:Value) (an:Option Addr) (cdv ct:Value) (us:List Value),us.length=ps.length->bindArgs (PySem.W.fnOf x x (defArgs st) (defBody st) (defScope st) .none kV doc pm an cdv ct) ⟨us,[]⟩=pure (ps.zip us))
  (ok:∀ f fd,PySem.W.nsIn K mainGlobals x=some (some (.ref f))->Fun K x x st f fd->FnOk P w K mg base (CXe P w) k f fd ps (spX K T F)):DefX P w K mg base k x ps T F:=by
 cases d with
 | mk f fd a D=>exact⟨f,fd,ok f fd a D,PySem.W.mg_of X G a,D.kp,D.binds hb,a⟩
end
def refAt:Option (Option Value)->Option Addr
 | some (some (.ref C))=>some C
 | _=>none
theorem refAt_some {o:Option (Option Value)}{C:Addr}(h:refAt o=some C):o=some (some (.ref C)):=by
 cases o with
 | none=>exact L2.no_ns h
 | some v=>cases v with
  | none=>exact L2.no_ns h
  | some v=>cases v with
   | ref a=>cases h;rfl
   | _=>exact L2.no_ns h
def clsAt (K:PySem.W.Frag)(x:Str):Addr:=(refAt (PySem.W.nsIn K mainGlobals x)).getD 0
def isCls (K:PySem.W.Frag)(x:Str):Bool:=(refAt (PySem.W.nsIn K mainGlobals x)).isSome
variable {K:PySem.W.Frag}{h:Heap}{mg:Str->Option Value}{exs:List Str}{x T:Str}
theorem clsAt_eq {C:Addr}(e:PySem.W.nsIn K mainGlobals x=some (some (.ref C))):clsAt K x=C:=by unfold clsAt;rw[e];rfl
theorem isCls_eq (q:isCls K x=true):PySem.W.nsIn K mainGlobals x=some (some (.ref (clsAt K x))):=by
 unfold isCls at q
 obtain⟨C,e⟩:=Option.isSome_iff_exists.mp q
 have e2:=refAt_some e
 rw[clsAt_eq e2]
 exact e2
def sameB (o:Option Bool)(b:Bool):Bool:=bif b then isTr o else isFa o
theorem sameB_eq {o:Option Bool}{b:Bool}(q:sameB o b=true):o=some b:=by
 cases b with
 | true=>exact isTr_eq q
 | false=>exact isFa_eq q
def isTs (K:PySem.W.Frag)(exs:List Str)(T:Str):Bool:=isCls K T&&(exs.all (fun c=>excKit K (clsAt K c)&&sameB (PySem.W.kitOne K (.ref (clsAt K c)) (.ref (clsAt K T))) (subX c T))&&isFa (PySem.W.kitOne K (.type "NoneType") (.ref (clsAt K T))))
def isVs (K:PySem.W.Frag)(exs:List Str):Bool:=exs.all (fun c=>excKit K (clsAt K c)&&isTr (PySem.W.kitOne K (.ref (clsAt K c)) (.type "ValueError")))&&isFa (PySem.W.kitOne K (.type "NoneType") (.type "ValueError"))
def exAll (K:PySem.W.Frag)(exs:List Str)(D:Addr):Bool:=exs.all fun c=>isTr (PySem.W.exmOne K (.ref (clsAt K c)) (.ref D))
theorem isT_of (X:K.In h)(G:h.Ns mainGlobals mg){Ts:List Str}(q:Ts.all (isTs K exs)=true)(i:Nat)(hi:Ts[i]?=some T):IsT K mg exs T (clsAt K T):=by
 have q1:=List.all_eq_true.mp q T (List.mem_of_getElem? hi)
 obtain⟨a,q1⟩:=and2 q1
 obtain⟨b,c⟩:=and2 q1
 refine⟨PySem.W.mg_of X G (isCls_eq a),fun cls hc C hC=>?_,isFa_eq c⟩
 obtain⟨b1,b2⟩:=and2 (List.all_eq_true.mp b cls hc)
 rw[clsAt_eq hC] at b1 b2
 exact⟨b1,sameB_eq b2⟩
theorem isV_of (q:isVs K exs=true):IsV K exs:=by
 obtain⟨b,c⟩:=and2 q
 refine⟨fun cls hc C hC=>?_,isFa_eq c⟩
 obtain⟨b1,b2⟩:=and2 (List.all_eq_true.mp b cls hc)
 rw[clsAt_eq hC] at b1 b2
 exact⟨b1,isTr_eq b2⟩
inductive ExcAt (K:PySem.W.Frag)(x:Str):Prop
 | mk (C:Addr) (ns:PySem.W.nsIn K mainGlobals x=some (some (.ref C))) (e:XNo K C):ExcAt K x
theorem xcd_of (X:K.In h)(G:h.Ns mainGlobals mg)(q:ExcAt K x):XCD K mg x (clsAt K x):=by
 obtain⟨C,ns,e⟩:=q
 rw[clsAt_eq ns]
 exact⟨PySem.W.mg_of X G ns,ns,e⟩
theorem caught_of (X:K.In h)(G:h.Ns mainGlobals mg)(a:isCls K x=true)(q:exAll K exs (clsAt K x)=true):mg x=some (.ref (clsAt K x))∧Caught K exs (clsAt K x):=
 ⟨PySem.W.mg_of X G (isCls_eq a),fun cls hc C hC=>by
  have b:=List.all_eq_true.mp q cls hc
  rw[clsAt_eq hC] at b
  exact isTr_eq b⟩
end L2
namespace L2
variable [Reg]
def Itc (lo:Int)(n:Nat):It:=⟨fun i _=>i<n,fun i H x H'=>H'=H∧x=.int (lo+(i:Nat)*2),fun i _=>n≤i⟩
theorem turn_two {P:Program}{w:World}{K:PySem.W.Frag}{tg:Expr}(it:Addr)(lo:Int)(n:Nat):Turn P w K tg (Itc lo n) [it] it (fun i h=>IsRangeIter h it (lo+(i:Nat)*2) ((n:Int) - (i:Nat)) 2) where
 mem:=by simp
 obj:=fun i h st b hb=>by
  obtain rfl:b=it:=by simpa using hb
  exact⟨_,st,fun v z=>by cases (show Data.fields _=Data.cell v from z)⟩
 keep:=fun i h h' st k=>k it (by simp) _ st
 item:=by
  intro X hP hw hK hc i pins s σ H E I hf st hg
  subst hP hw hK
  obtain⟨f0,f1,f2,f3,f4,f5⟩:=hf it (by simp)
  refine (Walks.range (prog:=X.prog) (w:=X.w) (I.ok.hd hc) it lo 2 n).item i s _ _ hg st fun v h' tk hv st' kk=>?_
  revert hv
  refine fun zqq=>?_;obtain⟨t,zq1⟩:=zqq
  subst zq1
  have I1:Inv X pins σ H { s with heap:=h',toks:=tk }:=I.turned (fun b o hb e=>kk b o (by simpa using hb) e) f0 f1 f3 f4 f5
  exact⟨_,rfl,go_of (s:={ s with heap:=h',toks:=tk }) (n:="range_iterator") st' rfl rfl (by decide) ⟨.int (lo+(i:Nat)*2),H,I1,⟨t,rfl⟩,⟨rfl,rfl⟩,st',fun b hb=>(hf b hb).1⟩⟩
 done:=by
  intro X hP hw hK hc i pins s σ H E I hf st hg
  subst hP hw hK
  obtain⟨f0,f1,f2,f3,f4,f5⟩:=hf it (by simp)
  exact wpAny_pyNext_range_end (I.ok.hd hc) st (by have:n≤i:=hg;omega) fun h' eb=>⟨rfl,I.turned (t':=s.toks) (fun b o hb e=>eb b o hb e) f0 f1 f3 f4 f5⟩
 self:=fun _ _ _ _ _ st h=>wpAny_pyIter_rangeiter st h
theorem size_two (a b:Int):Builtin.Range.rangeSize a b 2=(((b - a+1) / 2).toNat:Int):=by
 unfold Builtin.Range.rangeSize
 rw[if_pos (by decide)]
 split <;> omega
theorem small_two {a b:Int}(ha:-(2 ^ 61)≤a)(ha':a<2 ^ 61)(hb:-(2 ^ 61)≤b)(hb':b<2 ^ 61):Builtin.Range.small a b 2=true:=by
 have h:((((b - a+1) / 2).toNat:Nat):Int)≤2 ^ 62:=by omega
 have h0:=Int.natCast_nonneg ((b - a+1) / 2).toNat
 unfold Builtin.Range.small
 rw[size_two]
 generalize ((((b - a+1) / 2).toNat:Nat):Int)=k at h h0
 simp only[Builtin.Range.rangeFitsLong,Bool.and_eq_true,Bool.or_eq_true,decide_eq_true_eq,beq_iff_eq,show (2:Int)>0 by decide,if_true]
 omega
section
variable {X:Cx}{tg:Expr}
def iRng3 (ta:TA):TI:=fun σ H R=>ta σ H fun vs H1=>∃ i j:Int,vs=[.int i,.int j,.int 2]∧(-(2 ^ 61)≤i∧i<2 ^ 61∧-(2 ^ 61)≤j∧j<2 ^ 61)∧R (Itc i ((j - i+1) / 2).toNat) H1
theorem range_two {pins:List (Addr×Obj)}{σ:St}{H:Hp}{s:Shared}{R:It->Hp->Prop}{E:Value->Shared->Prop}{lo hi:Int}{t u v:Tok}{tk:Nat}(I:Inv X pins σ H s)(h1:-(2 ^ 61)≤lo)(h2:lo<2 ^ 61)(h3:-(2 ^ 61)≤hi)(h4:hi<2 ^ 61)
  (q:R (Itc lo ((hi - lo+1) / 2).toNat) H):wpAny (model X.prog X.w) X.A (pyIter (.ref s.heap.objs.size)) (PIE X pins σ tg R) E { s with heap:=s.heap.push { cls:=.type "range",data:=.fields #[.int lo t,.int hi u,.int 2 v] },toks:=tk }:=by
 refine wpAny_pyIter_range (IsRange.new ..) (small_two h1 h2 h3 h4) ?_
 have I1:Inv X pins σ H { s with heap:=s.heap.push { cls:=.type "range",data:=.fields #[.int lo t,.int hi u,.int 2 v] },toks:=tk }:=I.kept fun b o e=>Heap.get?_push_of_some _ e
 refine ⟨_,([(s.heap.push { cls:=.type "range",data:=.fields #[.int lo t,.int hi u,.int 2 v] }).objs.size]),_,_,H,rfl,(I1.kept (t':=tk) fun b o e=>Heap.get?_push_of_some _ e),turn_two _ lo ((hi - lo+1) / 2).toNat,?_,(fun b hb=>?_),q⟩
 ·show IsRangeIter _ _ (lo+((0:Nat):Int)*2) (((((hi - lo+1) / 2).toNat:Nat):Int) - ((0:Nat):Int)) 2
  rw[show lo+((0:Nat):Int)*2=lo by simp,show (((((hi - lo+1) / 2).toNat:Nat):Int) - ((0:Nat):Int))=Builtin.Range.rangeSize lo hi 2 by rw[size_two];omega]
  exact Heap.get?_push_size _ rfl
 ·obtain rfl:b=(s.heap.push { cls:=.type "range",data:=.fields #[.int lo t,.int hi u,.int 2 v] }).objs.size:=by simpa using hb
  exact I1.fpOk (Nat.le_refl _) (I1.hok.fresh (Nat.le_refl _))
theorem pi_range3 {a b c:Expr}{ta:TA}{p pos:Pos}(hg:Gl X "range")(hm:X.mg "range"=none)(ha:PA X [a,b,c] ta)(hs:starEach [a,b,c] X.env=[(false,eval a X.env),(false,eval b X.env),(false,eval c X.env)]:=by rfl)(hs2:starEach [b,c] X.env=[(false,eval b X.env),(false,eval c X.env)]:=by rfl) :
  PI X tg (.Call (.Name "range" p) [a,b,c] [] pos) (iRng3 ta):=by
 intro pins s σ H R I h
 refine Call_ (ld_blt I hg hm boot_range (PyProof.Rows.callWith_type1 (thn (ha pos pins s σ H _ I h) fun us s1 ⟨vs,H1,I1,r1,q1⟩=>?_) (by rw[hs,hs2]) (by rw[hs2];rfl)))
 obtain⟨i,j,e,⟨q1,q2,q3,q4⟩,q⟩:=q1
 subst e
 cases r1 with
 | cons r rr=>
  cases rr with
  | cons r' rr=>
   cases rr with
   | cons r'' rr=>
    cases rr
    revert r
    refine fun zqq=>?_;obtain⟨t,zq1⟩:=zqq
    subst zq1
    revert r'
    refine fun zqq=>?_;obtain⟨t',zq1⟩:=zqq
    subst zq1
    revert r''
    refine fun zqq=>?_;obtain⟨t'',zq1⟩:=zqq
    subst zq1
    exact call_range_3 (by decide) (range_two I1 q1 q2 q3 q4 q) (.inl (PyProof.noPylong_small (by decide)))
def three:List PyData->Option (PyData×PyData×PyData)
 | [d,e,f]=>some (d,e,f)
 | _=>none
theorem three_some {ds:List PyData}{p:PyData×PyData×PyData}(h:three ds=some p):ds=[p.1,p.2.1,p.2.2]:=by
 cases ds with
 | nil=>exact L2.no_ns h
 | cons a r=>
  cases r with
  | nil=>exact L2.no_ns h
  | cons b r=>
   cases r with
   | nil=>exact L2.no_ns h
   | cons c r=>
    cases r with
    | nil=>rw[← Option.some.inj h]
    | cons d r=>exact L2.no_ns h
def rngL2 (lo:Int)(n:Nat):List PyData:=(List.range n).map fun i=>.int (lo+(i:Nat)*2)
def rng3D (ds:List PyData):Option (List PyData):=(three ds).bind fun p=>(intO p.1).bind fun i=>(intO p.2.1).bind fun j=>(intO p.2.2).bind fun k=>if (decide (i.natAbs<2 ^ 60)&&(decide (j.natAbs<2 ^ 60)&&decide (k=2)))=true then some (rngL2 i ((j - i+1) / 2).toNat) else none
theorem nat_61 {j:Int}(h:j.natAbs<2 ^ 60):-(2 ^ 61)≤j∧j<2 ^ 61:=by omega
theorem rng3D_some {ds es:List PyData}(h:rng3D ds=some es):∃ i j,ds=[.int i,.int j,.int 2]∧(-(2 ^ 61)≤i∧i<2 ^ 61∧-(2 ^ 61)≤j∧j<2 ^ 61)∧es=rngL2 i ((j - i+1) / 2).toNat:=by
 obtain⟨p,h1,g1⟩:=bind_some h
 obtain⟨i,h2,g2⟩:=bind_some g1
 obtain⟨j,h3,g3⟩:=bind_some g2
 obtain⟨k,h4,g4⟩:=bind_some g3
 obtain rfl:=three_some h1
 rw[intO_some h2,intO_some h3,intO_some h4]
 split at g4
 ·rename_i hc
  rw[Bool.and_eq_true,Bool.and_eq_true] at hc
  have hc1:=nat_61 (of_decide_eq_true hc.1)
  have hc2:=nat_61 (of_decide_eq_true hc.2.1)
  rw[of_decide_eq_true hc.2.2]
  exact ⟨i,j,rfl,(⟨hc1.1,hc1.2,hc2.1,hc2.2⟩),(Option.some.inj g4).symm⟩
 ·exact L2.no_ns g4
theorem good_two {K:PySem.W.Frag}{G:Hp}(lo:Int)(n:Nat):GoodIt K (Itc lo n) G (rngL2 lo n) where
 go:=fun H2 i s h=>by
  have:i<n:=by simpa [rngL2] using h
  exact this
 yld:=fun H2 i x H3 d s h y=>by
  revert y
  refine fun zqq=>?_;obtain⟨zq0,zq1⟩:=zqq
  subst zq0
  subst zq1
  unfold rngL2 at h
  rw[List.getElem?_map] at h
  obtain⟨j,hj,zq2⟩:=Option.map_eq_some_iff.mp h
  subst zq2
  obtain⟨h1,h2⟩:=List.getElem?_eq_some_iff.mp hj
  rw[List.getElem_range] at h2
  subst h2
  exact .inl ⟨rfl,.int _⟩
 stop:=fun H2 s=>by
  show n≤(rngL2 lo n).length
  simp[rngL2]
variable {O:Ow}{a b c:Expr}{p pos:Pos}{fs:Rho->Option (List PyData)}
theorem iv_rng3 (hg:Gl X "range")(hm:X.mg "range"=none)(ha:PAr X O [a,b,c] fs)(hs:starEach [a,b,c] X.env=[(false,eval a X.env),(false,eval b X.env),(false,eval c X.env)]:=by rfl)(hs2:starEach [b,c] X.env=[(false,eval b X.env),(false,eval c X.env)]:=by rfl) :
  PIv X O tg (.Call (.Name "range" p) [a,b,c] [] pos) (fun ρ=>(fs ρ).bind rng3D):=
 (pi_range3 hg hm ha hs hs2).imp fun σ H R zpat=>by
  obtain⟨hid,H0,ρ,ow,ds,E,hf,k⟩:=zpat
  obtain⟨es,h1,h2⟩:=bind_some hf
  obtain⟨i,j,zq2,h3,zq4⟩:=rng3D_some h2
  subst zq2
  subst zq4
  refine⟨hid,H0,ρ,ow,_,E,h1,fun vs H' s D=>?_⟩
  obtain⟨v,ws,zq2,D1,D'⟩:=denl_cons D
  subst zq2
  obtain⟨v2,ws2,zq2,D2,D''⟩:=denl_cons D'
  subst zq2
  obtain⟨v3,ws3,zq2,D3,D4⟩:=denl_cons D''
  subst zq2
  exact ⟨i,j,(by rw[den_int D1,den_int D2,den_int D3,denl_nil D4]),h3,k _ H' s (good_two i _)⟩
end
end L2
namespace L2
theorem rev_no_len:typeLookup (.type "list_reverseiterator") "__len__"=pure none:=by rw[typeLookup_type,builtinLookup_eq_fast];kernel_rfl
theorem rev_hint:typeLookup (.type "list_reverseiterator") "__length_hint__"=pure (some (.builtin "list_reverseiterator.__length_hint__")):=by rw[typeLookup_type,builtinLookup_eq_fast];kernel_rfl
theorem rev_self:isSubtype (.type "list_reverseiterator") (.type "list_reverseiterator")=pure true:=by rw[isSubtype_type];kernel_rfl
section
variable {P:Program}{w:World}{A:Around}{E:Value->Shared->Prop}{s:Shared}
theorem hint_R {J:Addr}{Q:Bool->Shared->Prop}(ty:s.TypeIs (.ref J) "list_reverseiterator")(h:Q false s):wpAny (model P w) A (Builtin.List.listLengthHint (.ref J)) Q E s:=by
 unfold Builtin.List.listLengthHint
 refine wpAny_bind (wpAny_specialOf ty rev_no_len ?_)
 refine wpAny_bind (wpAny_specialOf ty rev_hint ?_)
 generalize e0:("list_reverseiterator.__length_hint__":String)=nm
 wp_delta
 rw[show splitId nm=some ("list_reverseiterator","__length_hint__") from by subst e0;decide +kernel]
 subst e0
 refine wpAny_bind (wpAny_isInstance (T:="list_reverseiterator") (b:=true) ty rev_self (wpAny_ite_split (fun z=>absurd z (by decide)) fun _=>wpAny_ite_split (fun _=>?_) fun z=>absurd (by decide +kernel) z))
 exact wpAny_ite_split (fun z=>absurd z (by decide +kernel)) fun _=>wpAny_pure h
theorem items_rev {items acc:Array Value}(h:ItemsOf (fun i v=>items[items.size - 1 - i]?=some v) acc items.size):acc=items.toList.reverse.toArray:=by
 obtain⟨h1,h2⟩:=id (h)
 apply Array.ext
 ·rw[h1];simp
 ·intro i h3 h4
  have h5:items[items.size - 1 - i]?=some acc[i]:=h2 i acc[i] (Array.getElem?_eq_getElem h3)
  have h6:i<items.size:=by omega
  rw[Array.getElem?_eq_getElem (by omega)] at h5
  rw[← Option.some.inj h5]
  simp
theorem call_list_rev {Q:Value->Shared->Prop}(hh:A.handled=none){J l:Addr}{items:Array Value}(hJ:s.heap.IsRevIter J l ((items.size:Int) - 1))(hl:s.heap.IsList l items)(hne:l≠J)(hz:items.size≤sizeLine)
  (hQ:∀ h' tk c',(∀ b o,b≠J->s.heap.get? b=some o->h'.get? b=some o)->h'.get? s.heap.objs.size=some { cls:=.type "list",dict:=none,data:=.seq items.toList.reverse.toArray c',slots:=#[] }->Q (.ref s.heap.objs.size) { s with heap:=h',toks:=tk }) :
  wpAny (model P w) A (call (.type "list") [.ref J]) Q E s:=by
 have hJl:J<s.heap.objs.size:=Heap.lt_size hJ.choose_spec.1
 have hll:l<s.heap.objs.size:=Heap.lt_size hl.choose_spec.1
 refine callType_codes (Q₁:=fun obj s₁=>obj=.ref s.heap.objs.size∧s₁={ s with heap:=s.heap.push { cls:=.type "list",data:=.seq #[] } }) F.called_list (F.typeCall_list_1 _) F.entry_list_init
  (code_list_new _ ⟨rfl,rfl⟩) fun obj s₁ h₁=>?_
 revert h₁
 refine fun zqq=>?_;obtain⟨zq0,zq1⟩:=zqq
 subst zq0
 subst zq1
 have hSJ:s.heap.objs.size≠J:=Nat.ne_of_gt hJl
 have hSl:s.heap.objs.size≠l:=Nat.ne_of_gt hll
 generalize hS0:s.heap.objs.size=S at hSJ hSl hQ ⊢
 have hS:(s.heap.push { cls:=.type "list",data:=.seq #[] }).get? S=some { cls:=.type "list",data:=.seq #[] }:=by rw[← hS0];exact Heap.get?_push_size _ rfl
 refine⟨⟨_,hS,rfl⟩,F.args_list_init_2 _ _,?_⟩
 show wpAny _ A.in1.in1 (do let old ← Builtin.List.listItems (.ref S);Builtin.List.listUpdate (.ref S) (fun _=>#[]);letGo old.toList.reverse;Builtin.List.listExtendWith (.ref S) (.ref J) .none) _ _ _
 refine wpAny_bind ?_
 unfold Builtin.List.listItems
 refine wpAny_bind (wpAny_seqItems hS rfl (wpAny_pure ?_))
 show wpAny _ _ (updateSeq S (fun _=>#[]) >>= fun _=>letGo (#[]:Array Value).toList.reverse >>= fun _=>Builtin.List.listExtendWith (.ref S) (.ref J) .none) _ _ _
 refine wpAny_bind (wpAny_updateSeq hS rfl ?_)
 have hS2:=Heap.get?_update_self (Obj.mapSeq (fun _=>(#[]:Array Value))) hS rfl
 have oth1:∀ b o,b≠S->s.heap.get? b=some o->((s.heap.push { cls:=.type "list",data:=.seq #[] }).update S (Obj.mapSeq (fun _=>(#[]:Array Value)))).get? b=some o:=fun b o hb e=>(Heap.get?_update_other _ _ (Ne.symm hb)).trans (Heap.get?_push_of_some _ e)
 refine wpAny_bind (wpAny_letGo ?_)
 generalize (s.heap.push { cls:=.type "list",data:=.seq #[] }).update S (Obj.mapSeq (fun _=>(#[]:Array Value)))=h1 at hS2 oth1
 have hJ1:h1.IsRevIter J l ((items.size:Int) - 1):=hJ.at fun o e=>oth1 J o (Ne.symm hSJ) e
 have hl1:h1.IsList l items:=hl.at fun o e=>oth1 l o (Ne.symm hSl) e
 have W:=(Walks.listRev (prog:=P) (w:=w) (A:=A.in1.in1) hh J l hne items).toS
 have key:∀ (h:Heap) (c1 tk:Nat),(items.size:Nat)=items.size->h.IsRevIter J l ((items.size:Int) - 1)->h.IsList l items->(∀ b o,b≠S->s.heap.get? b=some o->h.get? b=some o)->h.get? S=some { cls:=.type "list",data:=.seq #[] c1 } ->
   codeAny (model P w) A.in1 (.builtin "list.extend.loop" ⟨[.ref S,.ref J,.none],[]⟩) (wants (fun r s₂=>r=.none∧Q (.ref S) s₂) E) { s with heap:=h,toks:=tk }:=by
  intro h c1 tk _ hj hlh hk hSh
  refine codeAny_extend_loopS W hz S (by simp[hSJ,hSl]) .none items.size 0 _ #[] c1 rfl (Nat.zero_le _) ⟨Nat.zero_le _,by simpa using hj,hlh⟩ hSh (ItemsOf.nil _) fun s' acc' c' hm hS' hacc=>?_
  rw[Moved.eq_with hm]
  refine⟨rfl,?_⟩
  rw[items_rev hacc] at hS'
  refine hQ s'.heap s'.toks c' (fun b o hb e=>hm.heap b o (fun hmem=>?_) (hk b o (fun z=>?_) e)) hS'
  ·rcases List.mem_cons.mp hmem with e' | hmem
   ·rw[e',← hS0] at e;exact absurd (Heap.lt_size e) (Nat.lt_irrefl _)
   ·exact hb (List.mem_singleton.mp hmem)
  ·rw[z,← hS0] at e;exact absurd (Heap.lt_size e) (Nat.lt_irrefl _)
 unfold Builtin.List.listExtendWith
 refine wpAny_bind (wpAny_typeOf (s:={ s with heap:=h1 }) hJ1.typeIs ?_)
 have n1:Builtin.List.listSameRef (.ref S) (.ref J)=false:=by simp[Builtin.List.listSameRef,hSJ]
 simp only[n1,show (Value.type "list_reverseiterator"==Value.type "list")=false by decide,show (Value.type "list_reverseiterator"==Value.type "tuple")=false by decide,Bool.or_false,Bool.false_eq_true,if_false]
 refine wpAny_bind (wpAny_pyIter_revIter hJ1 ?_)
 refine wpAny_bind (wpAny_holding (hint_R (s:={ s with heap:=h1 }) hJ1.typeIs ?_))
 refine wpAny_ite_split (fun _=>?_) (fun _=>wpAny_pure ⟨plainId_quiet F.plain_extend_loop _,key _ _ _ rfl hJ1 hl1 oth1 hS2⟩)
 refine wpAny_bind (wpAny_rule ?_)
 refine wpAny_bind ?_
 show wpAny _ _ (updateSeq S (·.push .none) >>= fun _=>updateSeq S (·.pop)) _ _ _
 refine wpAny_bind (wpAny_updateSeq hS2 rfl ?_)
 have u1:=Heap.get?_update_self (Obj.mapSeq (·.push Value.none)) hS2 rfl
 refine wpAny_updateSeq (hz:=by seq_fits) u1 rfl ?_
 have u2:=Heap.get?_update_self (Obj.mapSeq (·.pop)) u1 rfl
 have oth:∀ b o,b≠S->h1.get? b=some o->((h1.update S (Obj.mapSeq (·.push Value.none))).update S (Obj.mapSeq (·.pop))).get? b=some o:=fun b o hb e=>(Heap.get?_update_other _ _ (Ne.symm hb)).trans ((Heap.get?_update_other _ _ (Ne.symm hb)).trans e)
 exact wpAny_pure ⟨plainId_quiet F.plain_extend_loop _,key _ _ _ rfl (hJ1.at fun o e=>oth J o (Ne.symm hSJ) e) (hl1.at fun o e=>oth l o (Ne.symm hSl) e) (fun b o hb e=>oth b o hb (oth1 b o hb e)) u2⟩
end
theorem bt_listR:bootBuiltins "list"=some (.type "list"):=by decide +kernel
theorem bt_revR:bootBuiltins "reversed"=some (.type "reversed"):=by decide +kernel
section
variable [Reg]{X:Cx}{O:Ow}{a:Expr}{fa:Rho->Option PyData}{p p2 pos pos2:Pos}
theorem fr_listrev (hc:X.calm=true)(hg:Gl X "list")(hm:X.mg "list"=none)(hg2:Gl X "reversed")(hm2:X.mg "reversed"=none)(ha:PR X O a fa)
  (he:starEach [.Call (.Name "reversed" p2) [a] [] pos2] X.env=(false,eval (.Call (.Name "reversed" p2) [a] [] pos2) X.env)::starEach [] X.env:=by rfl) (hpl:(backTo pos (starEach [] X.env)).any (·.1)=false:=by rfl)
  (he2:starEach [a] X.env=(false,eval a X.env)::starEach [] X.env:=by rfl) (hpl2:(backTo pos2 (starEach [] X.env)).any (·.1)=false:=by rfl) (hn:(backTo pos (starEach [] X.env))=[]:=by rfl) :
  PFr X O (.Call (.Name "list" p) [.Call (.Name "reversed" p2) [a] [] pos2] [] pos) (fun ρ=>(fa ρ).bind revD):=by
 intro pins s σ H Q I h
 obtain⟨hid,H0,ρ,ow,out,E,hf,k⟩:=h
 obtain⟨d,g1,g2⟩:=bind_some hf
 unfold revD at g2
 split at g2
 case h_2=>cases g2
 rename_i ds
 obtain rfl:=Option.some.inj g2
 refine wpAny_Call_Name_kw (ld_blt I hg hm bt_listR ?_)
 refine PyProof.Rows.callWith_type1 ?_ he hpl
 rw[he]
 show wpAny _ _ (spliced ((false,eval (.Call (.Name "reversed" p2) [a] [] pos2) X.env)::backTo pos (starEach [] X.env))) _ _ s
 rw[hn]
 refine Calls.spliced_cons ?_
 refine wpAny_Call_Name_kw (ld_blt I hg2 hm2 bt_revR ?_)
 refine PyProof.Rows.callWith_type1 (thn (pa_cons ha pa_nil he2 pos2 pins s σ H (fun vs H'=>∃ v,vs=[v]∧Same H H'∧Den X.K (del H' hid) v (.list ds)) I ⟨hid,H0,ρ,ow,_,E,g1,fun v H' s' D=>⟨v,rfl,s',D⟩⟩) fun us s1 zpat=>?_) he2 hpl2
 obtain⟨vs,H1,I1,r1,v,rfl,s01,D1⟩:=zpat
 obtain⟨u,zq1,rx⟩:=vals1 r1
 subst zq1
 obtain⟨q,xs,rfl,q1,r3⟩:=den_lst D1
 cases rx
 obtain⟨its,r,pl,hz⟩:=I1.list ((del_same _ _).seq q1)
 have hlen:=r.length
 have hL:=pl.isList
 refine call_reversed_list hL ?_
 have hql:q<s1.heap.objs.size:=Heap.lt_size hL.choose_spec.1
 refine Calls.spliced_nil ?_
 have hrev:Heap.IsRevIter (s1.heap.push (revObj q ((its.toArray.size:Int) - 1))) s1.heap.objs.size q ((its.toArray.size:Int) - 1):=⟨_,Heap.get?_push_size _ rfl,rfl,rfl⟩
 refine call_list_rev (I.ok.hd hc) (s:={ s1 with heap:=s1.heap.push (revObj q ((its.toArray.size:Int) - 1)) }) hrev (hL.at fun o e=>Heap.get?_push_of_some _ e) (Nat.ne_of_lt hql) (by simp only[List.size_toArray];omega) fun h' tk c' hk hnew=>?_
 have szp:(s1.heap.push (revObj q ((its.toArray.size:Int) - 1))).objs.size=s1.heap.objs.size+1:=Heap.size_push _ _
 have hkeep:∀ b o,s1.heap.get? b=some o->h'.get? b=some o:=fun b o e=>hk b o (fun z=>by rw[z] at e;exact absurd (Heap.lt_size e) (Nat.lt_irrefl _)) (Heap.get?_push_of_some _ e)
 have hfr:=I1.hok.fresh (a:=s1.heap.objs.size+1) (Nat.le_succ _)
 have hnew':h'.get? (s1.heap.objs.size+1)=some { cls:=.type "list",dict:=none,data:=.seq its.reverse.toArray c',slots:=#[] }:=by
  have:=hnew
  rw[show (Shared.heap { s1 with heap:=s1.heap.push (revObj q ((its.toArray.size:Int) - 1)) }).objs.size=s1.heap.objs.size+1 from szp] at this
  exact this
 rw[show (Shared.heap { s1 with heap:=s1.heap.push (revObj q ((its.toArray.size:Int) - 1)) }).objs.size=s1.heap.objs.size+1 from szp]
 refine⟨.ref (s1.heap.objs.size+1),_,I1.laid (a:=s1.heap.objs.size+1) (t':=tk) (o:=.lst xs.reverse) hkeep (Nat.le_succ _) ⟨by rw[List.length_reverse];exact hz,its.reverse,c',vals_rev r,hnew'⟩,rfl,?_⟩
 exact k _ _ _ (s01.trans (same_new hfr)) (s01.free hfr) upd_same ((r3.rev).mono (del_new (same_new hfr) hfr fun b z=>by rcases z with z | z;exact .inl z;exact .inr (by simpa using z)))
end
end L2
namespace L2
section
variable {P:Program}{w:World}{A:Around}{E:Value->Shared->Prop}{s:Shared}
end
variable [Reg]
end L2
namespace L2
variable [Reg]
theorem EnvOk.lend {K:PySem.W.Frag}{O:Ow}{hid:Addr->Prop}{H0 H:Hp}{σ:St}{ρ:Rho}{ow:List Addr}(E:EnvOk K O hid H0 σ H ρ ow){i:Nat}{es0:List PyData}(hi:O.s.lookup i=some (.lst .cl))(hρ:ρ[i]?=some (some (.list es0))) :
  ∃ l,σ[i]?=some (some (.ref l))∧∀ (j:Nat) (us:List V) (ds:List PyData) (T:Ty) (F:List PyData->Option (PyData×List PyData)) (r:PyData×List PyData) (Q:VK),us[j]?=some (.ref l)->ds.length=us.length->ds[j]?=some (.list es0) ->
   (∀ (m:Nat) (v:V) (d:PyData),m≠j->us[m]?=some v->ds[m]?=some d->Den K (del H (uni hid ow)) v d)->F ds=some r ->
   (∀ v H',EnvOk K O hid H0 σ H' (ρ.set i (some (.list r.2))) ow->Same (del H (uni hid ow)) (del H' (uni hid ow))->Den K (del H' (uni hid ow)) v r.1->Q v H')->SpIO K j T F us H Q:=by
 obtain⟨l,vs,h1,h2,h3,h4,h5⟩:=E.at0 hi hρ
 refine⟨l,h1,fun j us ds T F r Q g1 g2 g3 g4 g5 k=>?_⟩
 have hlo:uni hid ow l:=.inr h4
 have hu:uni (fun b=>uni hid ow b∧b≠l) [l]=uni hid ow:=by
  funext b
  apply propext
  constructor
  ·rintro (z | z)
   ·exact z.1
   ·rw[List.mem_singleton.mp z];exact hlo
  ·intro z
   by_cases e:b=l
   ·exact .inr (List.mem_singleton.mpr e)
   ·exact .inl ⟨z,e⟩
 have big:∀ (as:List Addr) (b:Addr),uni hid ow b->uni (fun b=>uni hid ow b∧b≠l) (l::as) b:=fun as b z=>by
  by_cases e:b=l
  ·exact .inr (by rw[e];exact List.mem_cons_self)
  ·exact .inl ⟨z,e⟩
 refine⟨fun b=>uni hid ow b∧b≠l,l,vs,es0,ds,r,fun b z=>E.uniL b z.1,fun z=>z.2 rfl,g1,h2,by rw[hu];exact h3,g2,g3,fun m v d hm a b=>by rw[hu];exact g4 m v d hm a b,g5,fun v as H' ws' s' hl' hD n Dv=>?_⟩
 have s2:Same H (upd H' l (.lst vs)):=fun b o e=>by
  by_cases hb:b=l
  ·rw[hb,upd_same];rw[hb] at e;rw[h2] at e;exact e
  ·rw[upd_ne hb];exact s' b o (by rw[del_neq hb];exact e)
 have e2:upd (upd H' l (.lst vs)) l (.lst ws')=H':=by
  funext b
  by_cases hb:b=l
  ·rw[hb,upd_same];exact hl'.symm
  ·rw[upd_ne hb,upd_ne hb]
 have q:=h5 _ s2 ws' r.2 (by rw[del_upd hlo];exact hD.mono (del_sub (big as)))
 rw[e2] at q
 refine k v H' q (fun b o z=>?_) (Dv.raw (del_sub (big as)) fun p hp o z=>?_)
 ·by_cases hb:uni hid ow b
  ·rw[del_in hb] at z;cases z
  ·rw[del_out hb] at z ⊢
   exact s' b o (by rw[del_neq fun e=>hb (by rw[e];exact hlo)];exact z)
 ·rw[del_out (E.fresh (n p hp))]
  exact z
section
variable {X:Cx}{O:Ow}{a b e:Expr}{es:List Expr}{pos p:Pos}{k:Nat}{ps:List Str}{x:Str}{T:Ty}
def callI0 (i:Nat)(F:List PyData->Option (PyData×List PyData))(ρ:Rho):Option (PyData×Rho):=((ρ[i]?).join.bind listD).bind fun xs=>(F [.list xs]).map fun z=>(z.1,ρ.set i (some (.list z.2)))
theorem x_callI0 {i:Nat}{F:List PyData->Option (PyData×List PyData)}(G:DefI X.prog X.w X.K X.mg X.base k x ps 0 T F)(hr:Room k X.A)(hg:Gl X x)(hb:PE X b (tVar i))(hO:O.s.lookup i=some (.lst .cl):=by rfl)(hdb:(x==("__debug__":Str))=false:=by decide)(he2:starEach [b] X.env=(false,eval b X.env)::starEach [] X.env:=by rfl)(hpl:(backTo pos (starEach [] X.env)).any (·.1)=false:=by rfl) :
  PX X O (.Call (.Name x p) [b] [] pos) (callI0 i F):=by
 obtain⟨f,fd,g1,g2,g3,g4,_⟩:=id (G)
 exact (pe_call g1 hr hg g2 g3 g4 .nil pass0 (pa_cons hb pa_nil he2) hdb he2 hpl).imp fun σ H Q zpat=>by
  obtain⟨hid,H0,ρ,ow,r,E,hf,k⟩:=zpat
  obtain⟨xs,e2,hf⟩:=bind_some hf
  obtain⟨z,e3,rfl⟩:=map_some hf
  obtain⟨dl,e4,e5⟩:=bind_some e2
  rw[listD_some e5] at e4
  obtain⟨l,h1,h2⟩:=E.lend hO (join_some e4)
  refine⟨.ref l,h1,?_⟩
  refine h2 0 _ [.list xs] T F z Q rfl rfl rfl (fun m w dd hm hv hd=>?_) e3 k
  match m,hm,hv,hd with
  | m+1,_,hv,hd=>exact L2.no_ns hd
def tTX (K:PySem.W.Frag)(O:Ow)(f:Rho->Option (Bool×Rho)):TT:=fun σ H Q=>At5 K O f σ H fun hid H0 ρ ow r=>∀ H',EnvOk K O hid H0 σ H' r.2 ow->Same (del H (uni hid ow)) (del H' (uni hid ow))->Q r.1 H'
def testX (x:Option (PyData×Rho)):Option (Bool×Rho):=x.bind fun r=>(boolD r.1).map fun b=>(b,r.2)
variable {ga:Rho->Option (Bool×Rho)}{gb:Rho->Option Bool}{rest:List Expr}
def ifX (x:Option (Bool×Rho))(F G:Rho->Option Out):Option Out:=x.bind fun r=>if r.1=true then F r.2 else G r.2
theorem s_ifX {c:Expr}{a b:List Stmt}{F G:Rho->Option Out}(hc:PT X c (tTX X.K O ga))(ha:PSsv X O a F)(hb:PSsv X O b G):PSv X O (.If c a b pos) (fun ρ=>ifX (ga ρ) F G):=(ps_if hc ha hb).imp fun D σ H zpat=>by
 obtain⟨hid,H0,ρ,ow,o,E,hf,k⟩:=zpat
 obtain⟨c,g1,g2⟩:=bind_some hf
 refine⟨hid,H0,ρ,ow,c,E,g1,fun H' E' s=>?_⟩
 by_cases hc:c.1=true
 ·rw[if_pos hc] at g2 ⊢;exact⟨hid,H0,c.2,ow,o,E',g2,k.weak s⟩
 ·rw[if_neg hc] at g2 ⊢;exact⟨hid,H0,c.2,ow,o,E',g2,k.weak s⟩
end
end L2
namespace L2
section
variable {X:Cx}
end
variable [Reg]
section
variable {X:Cx}{O:Ow}{a b e:Expr}{pos:Pos}{f:Rho->Option PyData}
end
end L2
namespace L2
variable [Reg]
section
variable {X:Cx}{O:Ow}{e:Expr}{pos:Pos}{f:Rho->Option PyData}{T:Ty}
end
end L2
namespace L2
variable [Reg]
end L2
namespace L2
structure ZAp (z TI TO i1 i2:Addr)(f1 f2:List Addr):Prop where
 nd:[z,TI,TO,i1,i2].Nodup
 a1:z∉f1∧TO∉f1∧i2∉f1
 a2:z∉f2∧TO∉f2∧i1∉f2
theorem ZAp.ne {z TI TO i1 i2:Addr}{f1 f2:List Addr}(ap:ZAp z TI TO i1 i2 f1 f2):(z≠TI∧z≠TO∧z≠i1∧z≠i2)∧(TI≠TO∧TI≠i1∧TI≠i2)∧(TO≠i1∧TO≠i2)∧i1≠i2:=by
 have nd:=ap.nd
 simp only[List.nodup_cons,List.mem_cons,List.not_mem_nil,or_false,not_or,List.nodup_nil,and_true,not_false_eq_true] at nd
 exact nd
section
variable {P:Program}{w:World}{A:Around}{E:Value->Shared->Prop}{s:Shared}{z TI TO i1 i2:Addr}{f1 f2:List Addr}{n1 n2 k1 k2:Nat}{P1 P2:Nat->Value->Prop}{S1 S2:Nat->Heap->Prop}{a b:Value}
theorem stay {it c:Addr}{f:List Addr}{n k:Nat}{Pv:Nat->Value->Prop}{S:Nat->Heap->Prop}(D:Draws P w A it f n Pv S){h h':Heap}(st:S k h)(x:Heap.ExtBut c h h')(hc:c∉f):S k h':=D.frame k h h' st fun b hb o e=>x b o (fun y=>hc (y▸hb)) e
end
abbrev zh0 (h:Heap)(l1 l2:Addr):Heap:=h.push { cls:=.type "list_iterator",data:=.fields #[.ref l1,.int 0 0] }
abbrev zh1 (h:Heap)(l1 l2:Addr):Heap:=(zh0 h l1 l2).push { cls:=.type "tuple_iterator",data:=.fields #[.ref l2,.int 0 0] }
abbrev zh2 (h:Heap)(l1 l2:Addr):Heap:=(zh1 h l1 l2).push { cls:=.type "tuple",data:=.seq #[.ref h.objs.size,.ref (zh0 h l1 l2).objs.size] }
abbrev zh3 (h:Heap)(l1 l2:Addr):Heap:=(zh2 h l1 l2).push { cls:=.type "tuple",data:=.seq #[.none,.none] }
abbrev zh4 (h:Heap)(l1 l2:Addr):Heap:=(zh3 h l1 l2).push { cls:=.type "zip",data:=.fields #[.none,.bool false,.bool false,.ref (zh1 h l1 l2).objs.size,.ref (zh2 h l1 l2).objs.size] }
section
variable {P:Program}{w:World}{A:Around}{E:Value->Shared->Prop}{s:Shared}
end
variable [Reg]
end L2
namespace L2
structure CompScC (sc:Scope)(XN:List Str)(scope:Scope)(k:Nat)(N:List Str)(ix:List Nat)(x0:Str):Prop where
 kind:scope.kind=.function
 okind:sc.kind=.function
 onec:(scope.names.filter fun y=>y.2==.cell)=[(x0,.cell)]
 x0c:scope.names.lookup x0=some .cell
 loc:∀ y∈scope.names,y.2=.local->scope.names.lookup y.1=some .local
 fr:∀ y∈scope.names,y.2=.free->sc.names.lookup y.1=some .cell
 sl:ix.map (fun i=>XN[i]?)=(N.drop k).map some
 frl:∀ x∈N.drop k,scope.names.lookup x=some .free
 len:N.length=k+ix.length
section
variable {X:Cx}{pins:List (Addr×Obj)}{σ:St}{H:Hp}{s:Shared}{scope:Scope}{k:Nat}{N:List Str}{ix:List Nat}{sc:Scope}{fp:List Addr}{x0:Str}
end
variable [Reg]
end L2
namespace L2
variable [Reg]
section
variable {P:Program}{w:World}{K:PySem.W.Frag}{h:Heap}{mg:Str->Option Value}{base:Heap}{x:Str}{st:Stmt}{k j:Nat}{ps:List Str}{T:Ty}
theorem FnAt.okI {F:List PyData->Option (PyData×List PyData)}(d:FnAt K x st)(X:K.In h)(G:h.Ns mainGlobals mg)
  (hb:∀ (kV doc pm:Value) (an:Option Addr) (cdv ct:Value) (us:List Value),us.length=ps.length->bindArgs (PySem.W.fnOf x x (defArgs st) (defBody st) (defScope st) .none kV doc pm an cdv ct) ⟨us,[]⟩=pure (ps.zip us))
  (ok:∀ f fd,PySem.W.nsIn K mainGlobals x=some (some (.ref f))->Fun K x x st f fd->FnOk P w K mg base CX0 k f fd ps (spIO K j T F)):DefI P w K mg base k x ps j T F:=by
 cases d with
 | mk f fd a D=>exact⟨f,fd,ok f fd a D,PySem.W.mg_of X G a,D.kp,D.binds hb,a⟩
end
end L2
namespace L2
variable [Reg]
section
variable {X:Cx}{O:Ow}{b:Expr}{es:List Expr}{pos p:Pos}{k:Nat}{ps:List Str}{x:Str}{T:Ty}
end
end L2
namespace L2
variable [Reg]
def tAX (K:PySem.W.Frag)(O:Ow)(f:Rho->Option (List PyData×Rho)):TA:=fun σ H Q=>At5 K O f σ H fun hid H0 ρ ow r=>∀ vs H',EnvOk K O hid H0 σ H' r.2 ow->Same (del H (uni hid ow)) (del H' (uni hid ow))->DenL K (del H' (uni hid ow)) vs r.1->Q vs H'
abbrev PAX (X:Cx)(O:Ow)(es:List Expr)(f:Rho->Option (List PyData×Rho)):Prop:=PA X es (tAX X.K O f)
section
variable {X:Cx}{O:Ow}{a b e:Expr}{es:List Expr}{fa fb:Rho->Option PyData}{pos p pos':Pos}
def forEff (S:PyData->Rho->Option Rho)(F:Rho->Option Out)(x:Option (PyData×Rho)):Option Out:=x.bind fun r=>(rng1D [r.1]).bind fun ds=>forD S F ds r.2
theorem s_forX {tg:Expr}{body:List Stmt}{fx:Rho->Option (PyData×Rho)}{S:PyData->Rho->Option Rho}{F:Rho->Option Out}(hc:X.calm=true)(hg1:Gl X "range")(hm:X.mg "range"=none)(ha:PX X O a fx)(hg:PGv X O tg S)(hb:PSsv X O body F)(hp:PassesOwn (model X.prog X.w) X.A X.env X.xe)
  (he:starEach [a] X.env=[(false,eval a X.env)]:=by rfl) (hs:∀ x,foldedSetIterable (.Call (.Name "range" p) [a] [] pos') X.env x=pure x:=by intro _;rfl):PSv X O (.For tg (.Call (.Name "range" p) [a] [] pos') body [] pos) (fun ρ=>forEff S F (fx ρ)):=(ps_for hp hc (pi_range1 hg1 hm (pa_cons ha pa_nil he) he) hg hb hs).imp fun D σ H zpat=>by
 obtain⟨hid,H0,ρ,ow,out,E,hf,k⟩:=zpat
 obtain⟨r,g0,hf⟩:=bind_some hf
 obtain⟨ds,g1,g2⟩:=bind_some hf
 obtain⟨j,e1,h3,h4,rfl⟩:=rng1D_some g1
 refine⟨hid,H0,ρ,ow,r,E,g0,fun v H1 E1 s1 D1=>⟨j,?_,h3,h4,?_⟩⟩
 ·have e2:r.1=.int j:=(List.cons.inj e1).1
  rw[e2] at D1
  rw[den_int D1]
 have Gd:GoodIt X.K (Itr 0 j.toNat) (del H1 (uni hid ow)) _:=good_rng 0 j.toNat
 generalize rngL 0 j.toNat=ds at Gd g2
 have k1:=k.weak s1
 refine⟨fun i m τ H2=>m=ds.length - i∧i≤ds.length∧∃ ρ2 ow2,EnvOk X.K O hid H0 τ H2 ρ2 ow2∧Same (del H1 (uni hid ow)) (del H2 (uni hid ow2))∧forD S F (ds.drop i) ρ2=some out,⟨ds.length,by simp,Nat.zero_le _,r.2,ow,E1,Same.refl _,by simpa using g2⟩,?_⟩
 rintro i m τ H2 ⟨rfl,hi',ρ2,ow2,E2,s2,hr⟩
 have keep:Same (del H1 (uni hid ow)) H2:=s2.trans (del_same _ _)
 by_cases hlt:i<ds.length
 ·have hdr:ds.drop i=ds[i]::ds.drop (i+1):=List.drop_eq_getElem_cons hlt
  rw[hdr,forD] at hr
  obtain⟨ρ3,g3,hr⟩:=bind_some hr
  obtain⟨o3,g4,hr⟩:=bind_some hr
  refine .inr ⟨Gd.go H2 i keep hlt,fun τ' H'=>∃ ρ2 ow2,EnvOk X.K O hid H0 τ' H' ρ2 ow2∧Same (del H1 (uni hid ow)) (del H' (uni hid ow2))∧forD S F (ds.drop (i+1)) ρ2=some out,fun τ' H' z=>⟨ds.length - (i+1),by omega,rfl,hlt,z⟩,fun x H3 y=>?_⟩
  have step:∃ s23:Same H2 H3,Den X.K (del H3 (uni hid ow2)) x ds[i]:=by
   rcases Gd.yld H2 i x H3 ds[i] keep (by simp[hlt]) y with ⟨rfl,Dx⟩ | ⟨p,vs,es,hp,rfl,rfl,hde,De⟩
   ·exact⟨Same.refl _,Dx.mono s2⟩
   ·refine⟨same_new hp,?_⟩
    rw[hde]
    exact .tup (SqT.of (E2.newAt hp)) ((De.mono s2).mono (del_mono (same_new hp) _))
  obtain⟨s23,Dx⟩:=step
  refine⟨hid,H0,ρ2,ow2,ds[i],ρ3,E2.mono s23,Dx,g3,fun τ3 E3=>⟨hid,H0,ρ3,ow2,o3,E3,g4,?_⟩⟩
  have s13:Same (del H1 (uni hid ow)) (del H3 (uni hid ow2)):=s2.trans (del_mono s23 _)
  cases o3 with
  | nx ρ4=>exact fun σ' H' ow' s' E'=>⟨ρ4,ow',E',s13.trans s',hr⟩
  | ct ρ4=>exact fun σ' H' ow' s' E'=>⟨ρ4,ow',E',s13.trans s',hr⟩
  | bk ρ4=>
   cases hr
   exact fun σ' H' ow' s' E'=>k1 σ' H' ow' (s13.trans s') E'
  | rt d=>
   cases hr
   exact k1
 ·have e:i=ds.length:=by omega
  subst e
  rw[List.drop_length,forD] at hr
  cases hr
  exact .inl ⟨Gd.stop H2 keep,k1 τ H2 ow2 s2 E2⟩
end
end L2
namespace L2
variable [Reg]
structure AsIo (O:Ow)(i:Nat)(O':Addr->Ow):Prop where
 at_:O.s.lookup i=some (.lst .cl)
 io:∀ l,(O' l).s.lookup i=some (.io l)
 ot:∀ l j,j≠i->(O' l).s.lookup j=O.s.lookup j
 r:∀ l,(O' l).r=O.r
 ne:∀ l,(O' l).s≠[]
section
variable {K:PySem.W.Frag}{O:Ow}{O':Addr->Ow}{i:Nat}{hid:Addr->Prop}{H0 H:Hp}{σ:St}{ρ:Rho}{ow:List Addr}
theorem EnvOk.asIo (a:AsIo O i O')(e:EnvOk K O hid H0 σ H ρ ow){ds:List PyData}(hρ:ρ[i]?=some (some (.list ds))):∃ l,EnvOk K (O' l) hid H0 σ H ρ ow∧σ[i]?=some (some (.ref l)):=by
 obtain⟨A,a1,a2,a3⟩:=e.own
 obtain⟨v,hv,D⟩:=a1 i _ _ a.at_ hρ
 generalize hA:A i=Ai at D
 cases D with
 | @lst _ l vs _ as q r n=>
  obtain⟨dl,rfl⟩:=r.dl
  refine⟨l,⟨e.len,e.base,fun j d hj hd=>?_,⟨A,fun j t d hj hd=>?_,a2,a3⟩,e.isl,e.ishL,fun z=>absurd z (a.ne l)⟩,hv⟩
  ·by_cases ji:j=i
   ·rw[ji,a.io l] at hj;cases hj
   ·exact e.val j d (by rw[← a.ot l j ji];exact hj) hd
  ·by_cases ji:j=i
   ·subst ji
    rw[a.io l] at hj
    cases hj
    rw[hρ] at hd
    cases hd
    exact⟨.ref l,hv,by rw[hA];exact .io q dl⟩
   ·exact a1 j t d (by rw[← a.ot l j ji];exact hj) hd
theorem EnvOk.ofIo (a:AsIo O i O'){l:Addr}(e:EnvOk K (O' l) hid H0 σ H ρ ow):EnvOk K O hid H0 σ H ρ ow:=by
 obtain⟨A,a1,a2,a3⟩:=e.own
 refine⟨e.len,e.base,fun j d hj hd=>?_,⟨A,fun j t d hj hd=>?_,a2,a3⟩,e.isl,e.ishL,fun z=>?_⟩
 ·have ji:j≠i:=fun z=>by rw[z,a.at_] at hj;cases hj
  exact e.val j d (by rw[a.ot l j ji];exact hj) hd
 ·by_cases ji:j=i
  ·subst ji
   rw[a.at_] at hj
   cases hj
   obtain⟨v,hv,D⟩:=a1 j _ d (a.io l) hd
   refine⟨v,hv,?_⟩
   generalize A j=Aj at D
   cases D with
   | io q dl=>exact .lst q dl.os (by simp)
   | non=>exact .non
  ·exact a1 j t d (by rw[a.ot l j ji];exact hj) hd
 ·have:=a.at_
  rw[z] at this
  cases this
theorem EnvOk.atIo (a:AsIo O i O'){l:Addr}(e:EnvOk K (O' l) hid H0 σ H ρ ow){ds:List PyData}(hρ:ρ[i]?=some (some (.list ds))):∃ vs,H l=some (.lst vs)∧DenL K (del H (uni hid ow)) vs ds:=by
 obtain⟨A,a1,a2,a3⟩:=e.own
 obtain⟨v,hv,D⟩:=a1 i _ _ (a.io l) hρ
 generalize A i=Ai at D
 cases D with
 | io q dl=>exact⟨_,q,dl⟩
end
def forL (i:Nat)(S:PyData->Rho->Option Rho)(F:Rho->Option Out):Nat->Nat->Rho->Option Out
 | 0,_,_=>none
 | n+1,k,ρ=>((ρ[i]?).join.bind listD).bind fun ds=>(ds[k]?).elim (some (.nx ρ)) fun d=>(S d ρ).bind fun ρ1=>(F ρ1).bind fun o=>match o with
  | .nx ρ2=>forL i S F n (k+1) ρ2
  | .ct ρ2=>forL i S F n (k+1) ρ2
  | .bk ρ2=>some (.nx ρ2)
  | .rt v=>some (.rt v)
section
variable {X:Cx}{O:Ow}{O':Addr->Ow}{i:Nat}{x:Str}{p pos:Pos}{tg:Expr}{body:List Stmt}{S:PyData->Rho->Option Rho}{F:Rho->Option Out}
theorem Then.io (a:AsIo O i O'){l:Addr}{hid:Addr->Prop}{H0 G:Hp}{D:Ends}{o:Out}(h:Then X.K O hid H0 G D o):Then X.K (O' l) hid H0 G D o:=by
 cases o with
 | nx ρ=>exact fun σ' H' ow' s E=>h σ' H' ow' s (E.ofIo a)
 | bk ρ=>exact fun σ' H' ow' s E=>h σ' H' ow' s (E.ofIo a)
 | ct ρ=>exact fun σ' H' ow' s E=>h σ' H' ow' s (E.ofIo a)
 | rt d=>exact fun v as H' s n Dv=>h v as H' s n (by rw[a.r l] at Dv;exact Dv)
theorem s_forL (n:Nat)(a:AsIo O i O')(hc:X.calm=true)(hx:PE X (.Name x p) (tVar i))(hg:∀ l,PGv X (O' l) tg S)(hb:∀ l,PSsv X (O' l) body F)(hp:PassesOwn (model X.prog X.w) X.A X.env X.xe)
  (hs:∀ y,foldedSetIterable (.Name x p) X.env y=pure y:=by intro _;rfl):PSv X O (.For tg (.Name x p) body [] pos) (fun ρ=>forL i S F n 0 ρ):=by
 intro pins s σ H D I zpat
 obtain⟨hid,H0,ρ,ow,out,E,hf,k⟩:=zpat
 have hρ:∃ ds,ρ[i]?=some (some (.list ds)):=by
  cases n with
  | zero=>cases hf
  | succ n=>
   have hf':((ρ[i]?).join.bind listD).bind _=some out:=hf
   obtain⟨ds,g1,_⟩:=bind_some hf'
   obtain⟨d,g2,g3⟩:=bind_some g1
   rw[listD_some g3] at g2
   exact⟨ds,join_some g2⟩
 obtain⟨ds0,hρ⟩:=hρ
 obtain⟨l,E1,hσ⟩:=E.asIo a hρ
 obtain⟨vs0,hH0,_⟩:=E1.atIo a hρ
 have k1:Then X.K (O' l) hid H0 (del H (uni hid ow)) D out:=k.io a
 refine ps_for hp hc (pi_list hx) (hg l) (hb l) hs pins s σ H D I ⟨.ref l,hσ,l,rfl,⟨vs0,SqL.of hH0⟩,fun j m τ H2=>∃ ρ2 ow2,EnvOk X.K (O' l) hid H0 τ H2 ρ2 ow2∧Same (del H (uni hid ow)) (del H2 (uni hid ow2))∧forL i S F m j ρ2=some out,⟨n,ρ,ow,E1,Same.refl _,hf⟩,?_⟩
 rintro j m τ H2 ⟨ρ2,ow2,E2,s2,hr⟩
 cases m with
 | zero=>cases hr
 | succ m=>
  have hr':((ρ2[i]?).join.bind listD).bind _=some out:=hr
  obtain⟨ds,g1,hr'⟩:=bind_some hr'
  obtain⟨d,g2,g3⟩:=bind_some g1
  rw[listD_some g3] at g2
  obtain⟨vs,hH,hD⟩:=E2.atIo a (join_some g2)
  cases hk:ds[j]? with
  | none=>
   rw[hk] at hr'
   cases hr'
   exact .inl ⟨⟨vs,SqL.of hH,by rw[hD.length];exact List.getElem?_eq_none_iff.mp hk⟩,k1 τ H2 ow2 s2 E2⟩
  | some d=>
   rw[hk] at hr'
   obtain⟨ρ3,g3,hr'⟩:=bind_some hr'
   obtain⟨o3,g4,hr'⟩:=bind_some hr'
   obtain⟨y,hy,Dy⟩:=hD.get hk
   refine .inr ⟨⟨vs,y,SqL.of hH,hy⟩,fun τ' H'=>∃ ρ2 ow2,EnvOk X.K (O' l) hid H0 τ' H' ρ2 ow2∧Same (del H (uni hid ow)) (del H' (uni hid ow2))∧forL i S F m (j+1) ρ2=some out,fun τ' H' z=>⟨m,Nat.lt_succ_self m,z⟩,fun x H3 yy=>?_⟩
   obtain⟨rfl,hx'⟩:=yy
   have exy:x=y:=by
    have:=hx' vs (SqL.of hH)
    rw[hy] at this
    exact (Option.some.inj this).symm
   subst exy
   refine⟨hid,H0,ρ2,ow2,d,ρ3,E2,Dy,g3,fun τ3 E3=>⟨hid,H0,ρ3,ow2,o3,E3,g4,?_⟩⟩
   cases o3 with
   | nx ρ4=>exact fun σ' H' ow' s' E'=>⟨ρ4,ow',E',s2.trans s',hr'⟩
   | ct ρ4=>exact fun σ' H' ow' s' E'=>⟨ρ4,ow',E',s2.trans s',hr'⟩
   | bk ρ4=>
    cases hr'
    exact fun σ' H' ow' s' E'=>k1 σ' H' ow' (s2.trans s') E'
   | rt d=>
    cases hr'
    exact k1
end
end L2
namespace L2
variable [Reg]
def compX (S:PyData->Rho->Option Rho)(fe:Rho->Option (PyData×Rho)):Nat->Nat->Rho->Option (List PyData×Rho)
 | 0,_,ρ=>some ([],ρ)
 | n+1,i,ρ=>(S (.int (i:Nat)) ρ).bind fun ρ1=>(fe ρ1).bind fun y=>(compX S fe n (i+1) y.2).map fun z=>(y.1::z.1,z.2)
def O1 (m:Nat)(l:Addr):Ow:=⟨[(m,.io l)],.cl⟩
section
variable {K:PySem.W.Frag}{O:Ow}{hid:Addr->Prop}{H0 H H':Hp}{σ:St}{ρ:Rho}{ow:List Addr}{l D:Addr}
inductive CIx (K:PySem.W.Frag)(m:Nat)(l:Addr)(hx:Addr->Prop)(H1:Hp)(D:Addr)(S:PyData->Rho->Option Rho)(fe:Rho->Option (PyData×Rho))(n:Nat)(out:List PyData×Rho)(i r:Nat)(τ:St)(H2:Hp):Prop
 | mk (hn:i+r=n) (ρ2:Rho) (ys:List V) (done:List PyData) (rest:List PyData×Rho) (E2:EnvOk K (O1 m l) hx (fun _=>none) τ H2 ρ2 [l]) (s2:Same (del H1 fun b=>b=l) H2) (hy:H2 D=some (.lst ys)) (hd:DenL K (del H2 (uni hx [l])) ys done) (hr:compX S fe r i ρ2=some rest) (ho:out=(done++rest.1,rest.2)) (hl:done.length=i):CIx K m l hx H1 D S fe n out i r τ H2
theorem EnvOk.io (E:EnvOk K O hid H0 σ H ρ ow){i:Nat}{es:List PyData}(hi:O.s.lookup i=some (.io l))(hρ:ρ[i]?=some (some (.list es))) :
  ∃ vs,σ[i]?=some (some (.ref l))∧H l=some (.lst vs)∧DenL K (del H (uni hid ow)) vs es∧l∈ow:=by
 obtain⟨A,EA⟩:=E.own
 obtain⟨v,b1,b2⟩:=EA.1 i (.io l) _ hi hρ
 have b3:=EA.2.2 i
 generalize A i=Ai at b2 b3
 cases b2 with
 | io h q=>exact⟨_,b1,h,q,b3 l (List.mem_singleton.mpr rfl)⟩
end
section
variable {X:Cx}{O:Ow}{e:Expr}{f:Rho->Option (PyData×Rho)}{pos p:Pos}{tg:Expr}{l:Addr}
end
end L2
namespace L2
variable [Reg]
section
variable {X:Cx}{O:Ow}{e c:Expr}{f:Rho->Option PyData}{a rest:List Stmt}{F G:Rho->Option Out}{ft:Rho->Option Bool}{l:Addr}{pos:Pos}
theorem pv_veil (h:PR X O0 e f):PV X O e (veilF (O.s.map (·.1)) f):=h.imp fun σ H Q zpat=>by
 obtain⟨hid,H0,ρ,ow,d,E,hf,k⟩:=zpat
 exact⟨uni hid ow,H,_,[],d,E.veil,hf,fun v H' s D=>k v H' s D⟩
theorem ss_ifI (hc:PTv X O c ft)(ha:PSI X O l a F)(hr:PSI X O l rest G):PSI X O l (.If c a [] pos::rest) (fun ρ=>condO (ft ρ) (F ρ) (G ρ)):=(pss_cons (ps_if hc ha pss_nil) hr).imp fun D σ H zpat=>by
 obtain⟨hid,H0,ρ,ow,o,E,hf,d,es,rfl,k⟩:=zpat
 obtain⟨b,g1,g2⟩:=bind_some hf
 refine⟨hid,H0,ρ,ow,b,E,g1,fun H' s=>?_⟩
 cases b with
 | true=>rw[if_pos rfl] at g2 ⊢;exact⟨hid,H0,ρ,ow,_,E.mono s,g2,d,es,rfl,k⟩
 | false=>rw[if_neg Bool.false_ne_true] at g2 ⊢;exact⟨hid,H0,ρ,ow,_,E.mono s,g2,d,es,rfl,k⟩
end
end L2
namespace L2
variable [Reg]
section
variable {K:PySem.W.Frag}{H C:Hp}
inductive PutAt (K:PySem.W.Frag)(H C:Hp)(ts:List Ty)(vs:List V)(ds:List PyData)(as:List Addr)(k:Nat)(t:Ty):Prop
 | mk (w:V) (d:PyData) (bs cs:List Addr) (hw:vs[k]?=some w) (hd:ds[k]?=some d) (D:DenO K H C t w d bs) (sp:∀ p,p∈as↔p∈bs∨p∈cs) (dj:∀ p∈bs,p∉cs)
  (put:∀ (H' C':Hp) (t':Ty) (w':V) (d':PyData) (bs':List Addr),Same C C'->(∀ p∈cs,∀ o,H p=some o->H' p=some o)->DenO K H' C' t' w' d' bs'->(∀ p∈bs',p∉cs) ->
   ∃ as',DenOp K H' C' (ts.set k t') (vs.set k w') (ds.set k d') as'∧∀ p,p∈as'↔p∈bs'∨p∈cs):PutAt K H C ts vs ds as k t
theorem DenOp.put {ts:List Ty}{vs:List V}{ds:List PyData}{as:List Addr}(h:DenOp K H C ts vs ds as):∀ {k:Nat} {t:Ty},ts[k]?=some t->PutAt K H C ts vs ds as k t:=
 h.ind (P:=fun ts vs ds as=>∀ {k:Nat} {t:Ty},ts[k]?=some t->PutAt K H C ts vs ds as k t) (fun e=>by rw[List.getElem?_nil] at e;cases e) fun {t0 ts v d vs ds as bs} h0 r n ih {k t} e=>by
  cases k with
  | zero=>
   obtain rfl:=Option.some.inj e
   refine⟨v,d,as,bs,rfl,rfl,h0,fun p=>List.mem_append,n,fun H' C' t' w' d' bs' c kp D dj=>⟨bs'++bs,.cons D (r.mono c fun p hp o=>kp p hp o) dj,fun p=>List.mem_append⟩⟩
  | succ k=>
   obtain⟨w,d0,b1,c1,hw,hd,D,sp,dj,put⟩:=ih (k:=k) (by simpa using e)
   refine⟨w,d0,b1,as++c1,by simpa using hw,by simpa using hd,D,fun p=>?_,fun p hp z=>?_,fun H' C' t' w' d' bs' c kp D' dj'=>?_⟩
   ·rw[List.mem_append,List.mem_append,sp]
    constructor
    ·rintro (z | z | z)
     ·exact .inr (.inl z)
     ·exact .inl z
     ·exact .inr (.inr z)
    ·rintro (z | z | z)
     ·exact .inr (.inl z)
     ·exact .inl z
     ·exact .inr (.inr z)
   ·rcases List.mem_append.mp z with z | z
    ·exact n p z ((sp p).mpr (.inl hp))
    ·exact dj p hp z
   ·obtain⟨as',q1,q2⟩:=put H' C' t' w' d' bs' c (fun p hp=>kp p (List.mem_append_right _ hp)) D' fun p hp z=>dj' p hp (List.mem_append_right _ z)
    refine⟨as++as',.cons (h0.mono c fun p hp o=>kp p (List.mem_append_left _ hp) o) q1 fun p hp z=>?_,fun p=>?_⟩
    ·rcases (q2 p).mp z with z | z
     ·exact dj' p z (List.mem_append_left _ hp)
     ·exact n p hp ((sp p).mpr (.inr z))
    ·rw[List.mem_append,List.mem_append,q2]
     constructor
     ·rintro (z | z | z)
      ·exact .inr (.inl z)
      ·exact .inl z
      ·exact .inr (.inr z)
     ·rintro (z | z | z)
      ·exact .inr (.inl z)
      ·exact .inl z
      ·exact .inr (.inr z)
end
section
variable {K:PySem.W.Frag}{O:Ow}{hid:Addr->Prop}{H0 H H2:Hp}{σ:St}{ρ:Rho}{ow:List Addr}{A:Nat->List Addr}
def restO (ow as:List Addr):List Addr:=ow.filter fun b=>!as.contains b
theorem mem_restO {ow as:List Addr}{b:Addr}:b∈restO ow as↔b∈ow∧b∉as:=by
 unfold restO
 rw[List.mem_filter,Bool.not_eq_true',← Bool.not_eq_true,List.contains_iff_mem]
theorem EnvOk.treeO {O':Ow}(E:EnvOk K O hid H0 σ H ρ ow)(EA:OwnA K O hid σ H ρ ow A){i:Nat}{t t':Ty}{v:V}{d2:PyData}{as2:List Addr}(hi:O.s.lookup i=some t)(hi2:O'.s.lookup i=some t')(hoth:∀ j,j≠i->O'.s.lookup j=O.s.lookup j)(hl:i<ρ.length)(hv:σ[i]?=some (some v))
  (s:∀ b o,b∉A i->H b=some o->H2 b=some o) (hn:∀ p∈as2,p∈A i∨H p=none) (hD:DenO K H2 (del H2 (uni hid (as2++restO ow (A i)))) t' v d2 as2) :
  EnvOk K O' hid H0 σ H2 (ρ.set i (some d2)) (as2++restO ow (A i))∧Same (del H (uni hid ow)) (del H2 (uni hid (as2++restO ow (A i)))):=by
 obtain⟨a1,a2,a3⟩:=EA
 have nw:∀ p∈as2,p∈ow∨H p=none:=fun p hp=>(hn p hp).imp (a3 i p) id
 have back:∀ b,b∈as2++restO ow (A i)->b∈ow∨H b=none:=fun b z=>by
  rcases List.mem_append.mp z with z | z
  ·exact nw b z
  ·exact .inl (mem_restO.mp z).1
 have sub:Same (del H (uni hid ow)) (del H2 (uni hid (as2++restO ow (A i)))):=fun b o z=>by
  by_cases hb:uni hid ow b
  ·rw[del_in hb] at z;cases z
  ·rw[del_out hb] at z
   rw[del_out fun y=>?_]
   ·exact s b o (fun y=>hb (.inr (a3 i b y))) z
   ·rcases y with y | y
    ·exact hb (.inl y)
    ·rcases back b y with y | y
     ·exact hb (.inr y)
     ·rw[y] at z;cases z
 refine⟨⟨by rw[List.length_set];exact E.len,fun b o z=>?_,fun j x hj q=>?_,⟨fun j=>if j=i then as2 else A j,fun j t2 x hj q=>?_,fun j k p hjk hp hk=>?_,fun j p hp=>?_⟩,fun l hl=>?_,fun b hb=>?_,fun z=>by rw[z] at hi2;cases hi2⟩,sub⟩
 ·have y:=E.base b o z
  by_cases hb:b∈ow
  ·rw[del_in hb] at y;cases y
  ·rw[del_out hb] at y
   rw[del_out fun w=>?_]
   ·exact s b o (fun w=>hb (a3 i b w)) y
   ·rcases back b w with w | w
    ·exact hb w
    ·rw[w] at y;cases y
 ·have hne:j≠i:=fun z=>by rw[z,hi2] at hj;cases hj
  rw[List.getElem?_set_ne (Ne.symm hne)] at q
  obtain⟨w,b1,b2⟩:=E.val j x (by rw[← hoth j hne];exact hj) q
  exact⟨w,b1,b2.mono sub⟩
 ·rcases set_two q with ⟨rfl,z,hz⟩ | ⟨hne,z⟩
  ·obtain rfl:=Option.some.inj z
   rw[hi2] at hj
   obtain rfl:=Option.some.inj hj
   exact⟨v,hv,by dsimp only;rw[if_pos rfl];exact hD⟩
  ·obtain⟨w,b1,b2⟩:=a1 j t2 x (by rw[← hoth j hne];exact hj) z
   refine⟨w,b1,?_⟩
   dsimp only
   rw[if_neg hne]
   exact b2.mono sub fun p hp o q=>s p o (a2 j i p hne hp) q
 ·dsimp only at hp hk
  split at hp
  ·split at hk
   ·subst_vars;exact hjk rfl
   ·rename_i hji hki
    rcases hn p hp with z | z
    ·exact a2 i k p (fun y=>hki y.symm) z hk
    ·obtain⟨⟨vs,q⟩,_⟩:=E.isl p (a3 k p hk)
     rw[z] at q;cases q
  ·split at hk
   ·rename_i hji hki
    rcases hn p hk with z | z
    ·exact a2 i j p (fun y=>hji y.symm) z hp
    ·obtain⟨⟨vs,q⟩,_⟩:=E.isl p (a3 j p hp)
     rw[z] at q;cases q
   ·exact a2 j k p hjk hp hk
 ·dsimp only at hp
  split at hp
  ·exact List.mem_append_left _ hp
  ·rename_i hji
   exact List.mem_append_right _ (mem_restO.mpr ⟨a3 j p hp,fun z=>a2 j i p hji hp z⟩)
 ·rcases List.mem_append.mp hl with z | z
  ·refine⟨hD.lists l z,fun y=>?_⟩
   rcases hn l z with w | w
   ·exact (E.isl l (a3 i l w)).2 y
   ·exact E.ish l y w
  ·obtain⟨z1,z2⟩:=mem_restO.mp z
   obtain⟨⟨vs,q⟩,n⟩:=E.isl l z1
   exact⟨⟨vs,s l _ z2 q⟩,n⟩
 ·obtain⟨vs,q⟩:=E.ishL b hb
  exact⟨vs,s b _ (fun z=>(E.isl b (a3 i b z)).2 hb) q⟩
theorem EnvOk.tree (E:EnvOk K O hid H0 σ H ρ ow)(EA:OwnA K O hid σ H ρ ow A){i:Nat}{t:Ty}{v:V}{d2:PyData}{as2:List Addr}(hi:O.s.lookup i=some t)(hl:i<ρ.length)(hv:σ[i]?=some (some v))
 (s:∀ b o,b∉A i->H b=some o->H2 b=some o) (hn:∀ p∈as2,p∈A i∨H p=none) (hD:DenO K H2 (del H2 (uni hid (as2++restO ow (A i)))) t v d2 as2) :
 EnvOk K O hid H0 σ H2 (ρ.set i (some d2)) (as2++restO ow (A i))∧Same (del H (uni hid ow)) (del H2 (uni hid (as2++restO ow (A i)))):=E.treeO EA hi hi (fun _ _=>rfl) hl hv s hn hD
end
def fdsD:PyData->Option (List PyData)
 | .dict [_,_,(_,.tuple fd)]=>some fd
 | _=>none
section
variable {K:PySem.W.Frag}{O:Ow}{hid:Addr->Prop}{H0 H:Hp}{σ:St}{ρ:Rho}{ow:List Addr}
inductive RecAt (K:PySem.W.Frag)(O:Ow)(hid:Addr->Prop)(H0:Hp)(σ:St)(H:Hp)(ρ:Rho)(ow:List Addr)(i:Nat)(oa:Option Addr)(cls:Str)(ns:List Str)(ts:List Ty)(ds:List PyData):Prop
 | mk (A:Nat->List Addr) (EA:OwnA K O hid σ H ρ ow A) (a D dx:Addr) (fs:List (Str×V)) (as:List Addr) (hv:σ[i]?=some (some (.ref a))) (ho:∀ b,oa=some b->b=a) (hA:A i=a::as) (hH:H a=some (.ins D dx fs)) (hn:PySem.W.nsIn K mainGlobals cls=some (some (.ref D))) (hf:fs.map (·.1)=ns)
  (q:DenOp K H (del H (uni hid ow)) ts (fs.map (·.2)) ds as) (na:a∉as) (hl:i<ρ.length):RecAt K O hid H0 σ H ρ ow i oa cls ns ts ds
theorem EnvOk.recAt (E:EnvOk K O hid H0 σ H ρ ow){i:Nat}{oa:Option Addr}{cls:Str}{ns:List Str}{ts:List Ty}{ds:List PyData}(hi:O.s.lookup i=some (.rc oa cls ns ts))(hd:(ρ[i]?).join.bind fdsD=some ds):RecAt K O hid H0 σ H ρ ow i oa cls ns ts ds:=by
 obtain⟨d,h1,h2⟩:=bind_some hd
 have h1:=join_some h1
 obtain⟨A,EA⟩:=E.own
 obtain⟨v,hv,D⟩:=EA.1 i _ d hi h1
 have hl:=(List.getElem?_eq_some_iff.mp h1).1
 generalize hA:A i=Ai at D
 cases D with
 | non=>cases h2
 | @rc _ _ _ _ a D dx fs ds' as ho hH hn hf q na=>
  obtain rfl:ds'=ds:=Option.some.inj h2
  exact⟨A,EA,a,D,dx,fs,as,hv,ho,hA,hH,hn,hf,q,na,hl⟩
theorem putF_at {f:Str}{y:V}:∀ {fs:List (Str×V)} {k:Nat},(fs.map (·.1))[k]?=some f->(fs.map (·.1)).Nodup->putF f y fs=fs.set k (f,y)
 | [],k,h,_=>by rw[List.map_nil,List.getElem?_nil] at h;cases h
 | (g,x)::r,0,h,_=>by
  have:g=f:=by simpa using h
  subst this
  show (if g=g then _ else _)=_
  rw[if_pos rfl]
  rfl
 | (g,x)::r,k+1,h,n=>by
  have hne:g≠f:=fun e=>by
   have:=(List.nodup_cons.mp n).1
   subst e
   exact this (List.mem_of_getElem? (by simpa using h))
  show (if g=f then _ else _)=_
  rw[if_neg hne,putF_at (k:=k) (by simpa using h) (List.nodup_cons.mp n).2]
  rfl
theorem map1_set {fs:List (Str×V)}{k:Nat}{f:Str}{y:V}(h:(fs.map (·.1))[k]?=some f):(fs.set k (f,y)).map (·.1)=fs.map (·.1):=by
 rw[List.map_set]
 apply List.ext_getElem?
 intro j
 by_cases e:j=k
 ·subst e
  rw[List.getElem?_set_self (List.getElem?_eq_some_iff.mp h).1,h]
 ·rw[List.getElem?_set_ne (Ne.symm e)]
theorem fld_at {f:Str}:∀ {fs:List (Str×V)} {k:Nat} {w:V},(fs.map (·.1))[k]?=some f->(fs.map (·.1)).Nodup->(fs.map (·.2))[k]?=some w->fs.lookup f=some w
 | [],k,w,h,_,_=>by rw[List.map_nil,List.getElem?_nil] at h;cases h
 | (g,x)::r,0,w,h,_,hw=>by
  have e:g=f:=by simpa using h
  have e2:x=w:=by simpa using hw
  subst e e2
  rw[List.lookup_cons,beq_self_eq_true]
 | (g,x)::r,k+1,w,h,n,hw=>by
  have hne:f≠g:=fun e=>by
   have:=(List.nodup_cons.mp n).1
   subst e
   exact this (List.mem_of_getElem? (by simpa using h))
  rw[List.lookup_cons,beq_eq_false_iff_ne.mpr hne]
  exact fld_at (k:=k) (by simpa using h) (List.nodup_cons.mp n).2 (by simpa using hw)
theorem set_same {fs:List (Str×V)}{k:Nat}{f:Str}{w:V}(h1:(fs.map (·.1))[k]?=some f)(h2:(fs.map (·.2))[k]?=some w):fs.set k (f,w)=fs:=by
 apply List.ext_getElem?
 intro j
 by_cases ej:j=k
 ·subst ej
  rw[List.getElem?_map] at h1 h2
  cases hj:fs[j]? with
  | none=>rw[hj] at h1;cases h1
  | some pr=>
   rw[hj] at h1 h2
   rw[List.getElem?_set_self (List.getElem?_eq_some_iff.mp hj).1]
   obtain⟨p1,p2⟩:=pr
   have e1:p1=f:=by simpa using h1
   have e2:p2=w:=by simpa using h2
   rw[e1,e2]
 ·rw[List.getElem?_set_ne (Ne.symm ej)]
theorem EnvOk.putFldO {O':Ow}(E:EnvOk K O hid H0 σ H ρ ow){i k:Nat}{oa:Option Addr}{cls f:Str}{ns:List Str}{ts:List Ty}{ds:List PyData}{t t':Ty}(hi:O.s.lookup i=some (.rc oa cls ns ts))(hi2:O'.s.lookup i=some (.rc oa cls ns (ts.set k t')))(hoth:∀ j,j≠i->O'.s.lookup j=O.s.lookup j)(hd:(ρ[i]?).join.bind fdsD=some ds)(hk:ts[k]?=some t)(hf:ns[k]?=some f)(hnd:ns.Nodup) :
  ∃ a D dx fs w d bs,σ[i]?=some (some (.ref a))∧H a=some (.ins D dx fs)∧PySem.W.nsIn K mainGlobals cls=some (some (.ref D))∧fs.lookup f=some w∧fs.length=ns.length∧a∈ow∧ds[k]?=some d∧DenO K H (del H (uni hid ow)) t w d bs∧(∀ p∈bs,p∈ow∧p≠a) ∧
   ∀ (H1:Hp) (bs':List Addr) (w':V) (d':PyData),(∀ b o,b∉bs->b≠a->H b=some o->H1 b=some o)->(∀ p∈bs',p∈bs∨H p=none)->H1 a=some (.ins D dx (fs.set k (f,w'))) ->
    (∀ ow',(∀ b,b∈ow'->b∈ow∨b∈bs')->(∀ b,b∈ow->b∉bs->b∈ow')->(∀ b∈bs',b∈ow')->(∀ b∈bs,b∉bs'->b∉ow')->DenO K H1 (del H1 (uni hid ow')) t' w' d' bs') ->
    ∃ ow',EnvOk K O' hid H0 σ H1 (ρ.set i (some (objD cls ns (ds.set k d')))) ow'∧Same (del H (uni hid ow)) (del H1 (uni hid ow')):=by
 obtain⟨A,EA,a,D,dx,fs,as,hv,ho,hA,hH,hn,hfs,q,na,hl⟩:=E.recAt hi hd
 obtain⟨w,d,bs,cs,hw,hd',Dw,sp,dj,put⟩:=q.put hk
 subst hfs
 have aow:a∈ow:=EA.2.2 i a (by rw[hA];exact List.mem_cons_self)
 have asow:∀ p∈as,p∈ow:=fun p hp=>EA.2.2 i p (by rw[hA];exact List.mem_cons_of_mem _ hp)
 refine⟨a,D,dx,fs,w,d,bs,hv,hH,hn,fld_at hf hnd hw,by rw[List.length_map],aow,hd',Dw,fun p hp=>⟨asow p ((sp p).mpr (.inl hp)),fun z=>na (z▸(sp p).mpr (.inl hp))⟩,fun H1 bs' w' d' s hb ha hD=>?_⟩
 have nbs':∀ p∈bs',p∉cs:=fun p hp z=>by
  rcases hb p hp with y | y
  ·exact dj p y z
  ·obtain⟨vs,e⟩:=q.lists p ((sp p).mpr (.inr z))
   rw[y] at e;cases e
 have nba:a∉bs':=fun z=>by
  rcases hb a z with y | y
  ·exact na ((sp a).mpr (.inl y))
  ·rw[y] at hH;cases hH
 -- the new tree's addresses: first with any clean part,to know them
 have hsame:∀ p∈cs,∀ o,H p=some o->H1 p=some o:=fun p hp o e=>s p o (fun z=>dj p z hp) (fun z=>na (z▸(sp p).mpr (.inr hp))) e
 have u1:Same (del H (uni hid ow)) (del H1 (uni hid (bs'++(a::cs)++restO ow (A i)))):=fun b o z=>by
  by_cases hb':uni hid ow b
  ·rw[del_in hb'] at z;cases z
  ·rw[del_out hb'] at z
   rw[del_out fun y=>?_]
   ·exact s b o (fun y=>hb' (.inr (asow b ((sp b).mpr (.inl y))))) (fun y=>hb' (.inr (y▸aow))) z
   ·rcases y with y | y
    ·exact hb' (.inl y)
    ·rcases List.mem_append.mp y with y | y
     ·rcases List.mem_append.mp y with y | y
      ·rcases hb b y with x | x
       ·exact hb' (.inr (asow b ((sp b).mpr (.inl x))))
       ·rw[x] at z;cases z
      ·rcases List.mem_cons.mp y with x | x
       ·exact hb' (.inr (x▸aow))
       ·exact hb' (.inr (asow b ((sp b).mpr (.inr x))))
     ·exact hb' (.inr (mem_restO.mp y).1)
 have u2:∀ b,b∈bs'++(a::cs)++restO ow (A i)->b∈ow∨b∈bs':=fun b z=>by
  rcases List.mem_append.mp z with z | z
  ·rcases List.mem_append.mp z with z | z
   ·exact .inr z
   ·rcases List.mem_cons.mp z with x | x
    ·exact .inl (x▸aow)
    ·exact .inl (asow b ((sp b).mpr (.inr x)))
  ·exact .inl (mem_restO.mp z).1
 have u3:∀ b,b∈ow->b∉bs->b∈bs'++(a::cs)++restO ow (A i):=fun b z1 z2=>by
  by_cases hb':b∈A i
  ·rw[hA] at hb'
   rcases List.mem_cons.mp hb' with x | x
   ·exact List.mem_append_left _ (List.mem_append_right _ (x▸List.mem_cons_self))
   ·rcases (sp b).mp x with x | x
    ·exact absurd x z2
    ·exact List.mem_append_left _ (List.mem_append_right _ (List.mem_cons_of_mem _ x))
  ·exact List.mem_append_right _ (mem_restO.mpr ⟨z1,hb'⟩)
 have u4:∀ b∈bs',b∈bs'++(a::cs)++restO ow (A i):=fun b z=>by
  exact List.mem_append_left _ (List.mem_append_left _ z)
 have u5:∀ b∈bs,b∉bs'->b∉bs'++(a::cs)++restO ow (A i):=fun b z1 z2 z=>by
  rcases List.mem_append.mp z with z | z
  ·rcases List.mem_append.mp z with z | z
   ·exact z2 z
   ·rcases List.mem_cons.mp z with x | x
    ·exact na (x▸(sp b).mpr (.inl z1))
    ·exact dj b z1 x
  ·exact (mem_restO.mp z).2 (by rw[hA];exact List.mem_cons_of_mem _ ((sp b).mpr (.inl z1)))
 obtain⟨as',hq0,hm0⟩:=put H1 (del H1 (uni hid (bs'++(a::cs)++restO ow (A i)))) t' w' d' bs' u1 hsame (hD _ u2 u3 u4 u5) nbs'
 have nas':a∉as':=fun z=>by
  rcases (hm0 a).mp z with y | y
  ·exact nba y
  ·exact na ((sp a).mpr (.inr y))
 have eu:uni hid (bs'++(a::cs)++restO ow (A i))=uni hid ((a::as')++restO ow (A i)):=by
  funext b
  apply propext
  unfold uni
  simp only[List.mem_append,List.mem_cons,hm0]
  constructor
  ·rintro (z | (z | z | z) | z)
   ·exact .inl z
   ·exact .inr (.inl (.inr (.inl z)))
   ·exact .inr (.inl (.inl z))
   ·exact .inr (.inl (.inr (.inr z)))
   ·exact .inr (.inr z)
  ·rintro (z | (z | z | z) | z)
   ·exact .inl z
   ·exact .inr (.inl (.inr (.inl z)))
   ·exact .inr (.inl (.inl z))
   ·exact .inr (.inl (.inr (.inr z)))
   ·exact .inr (.inr z)
 rw[eu] at hq0
 have ew:(fs.map (·.2)).set k w'=(fs.set k (f,w')).map (·.2):=by rw[List.map_set]
 rw[ew] at hq0
 refine⟨_,E.treeO EA (as2:=a::as') hi hi2 hoth hl hv (fun b o z e=>s b o (fun y=>z ?_) (fun y=>z ?_) e) (fun p hp=>?_) (.rc ho ha hn (map1_set hf) hq0 nas')⟩
 ·rw[hA];exact List.mem_cons_of_mem _ ((sp b).mpr (.inl y))
 ·rw[hA,y];exact List.mem_cons_self
 ·rw[hA]
  rcases List.mem_cons.mp hp with y | y
  ·exact .inl (y▸List.mem_cons_self)
  ·rcases (hm0 p).mp y with y | y
   ·rcases hb p y with x | x
    ·exact .inl (List.mem_cons_of_mem _ ((sp p).mpr (.inl x)))
    ·exact .inr x
   ·exact .inl (List.mem_cons_of_mem _ ((sp p).mpr (.inr y)))
theorem set_ty {ts:List Ty}{k:Nat}{t:Ty}(hk:ts[k]?=some t):ts.set k t=ts:=by
 apply List.ext_getElem?
 intro j
 by_cases e:j=k
 ·subst e;rw[List.getElem?_set_self (List.getElem?_eq_some_iff.mp hk).1,hk]
 ·rw[List.getElem?_set_ne (Ne.symm e)]
theorem EnvOk.putFld (E:EnvOk K O hid H0 σ H ρ ow){i k:Nat}{oa:Option Addr}{cls f:Str}{ns:List Str}{ts:List Ty}{ds:List PyData}{t:Ty}(hi:O.s.lookup i=some (.rc oa cls ns ts))(hd:(ρ[i]?).join.bind fdsD=some ds)(hk:ts[k]?=some t)(hf:ns[k]?=some f)(hnd:ns.Nodup) :
 ∃ a D dx fs w d bs,σ[i]?=some (some (.ref a))∧H a=some (.ins D dx fs)∧PySem.W.nsIn K mainGlobals cls=some (some (.ref D))∧fs.lookup f=some w∧fs.length=ns.length∧a∈ow∧ds[k]?=some d∧DenO K H (del H (uni hid ow)) t w d bs∧(∀ p∈bs,p∈ow∧p≠a) ∧
  ∀ (H1:Hp) (bs':List Addr) (w':V) (d':PyData),(∀ b o,b∉bs->b≠a->H b=some o->H1 b=some o)->(∀ p∈bs',p∈bs∨H p=none)->H1 a=some (.ins D dx (fs.set k (f,w'))) ->
   (∀ ow',(∀ b,b∈ow'->b∈ow∨b∈bs')->(∀ b,b∈ow->b∉bs->b∈ow')->(∀ b∈bs',b∈ow')->(∀ b∈bs,b∉bs'->b∉ow')->DenO K H1 (del H1 (uni hid ow')) t w' d' bs') ->
   ∃ ow',EnvOk K O hid H0 σ H1 (ρ.set i (some (objD cls ns (ds.set k d')))) ow'∧Same (del H (uni hid ow)) (del H1 (uni hid ow')):=E.putFldO hi (by rw[set_ty hk];exact hi) (fun _ _=>rfl) hd hk hf hnd
end
section
variable {X:Cx}{O:Ow}{e:Expr}{fe:Rho->Option PyData}{i k:Nat}{x f cls:Str}{ns:List Str}{ts:List Ty}{oa:Option Addr}{p ap apos cpos pos pos':Pos}
theorem DenO.cl0 {K:PySem.W.Frag}{H C:Hp}{v:V}{d:PyData}{as:List Addr}(h:DenO K H C .cl v d as):as=[]:=by
 cases h <;> rfl
def setFd (i k:Nat)(cls:Str)(ns:List Str)(fe:Rho->Option PyData)(ρ:Rho):Option Out:=(fe ρ).bind fun d'=>((ρ[i]?).join.bind fdsD).map fun ds=>.nx (ρ.set i (some (objD cls ns (ds.set k d'))))
theorem s_setF (hC:FldOk X.K cls f)(hx:PE X (.Name x p) (tVar i))(he:PV X O e fe)(hO:O.s.lookup i=some (.rc oa cls ns ts):=by rfl)(hk:ts[k]?=some .cl:=by rfl)(hf:ns[k]?=some f:=by rfl)(hnd:ns.Nodup:=by decide +kernel)(hlen:ns.length<1000:=by decide)
  (hs:swapsWith e (some (.Attribute (.Name x p) f pos')) pos.line X.env=pure false:=by rfl):PSv X O (.Assign [.Attribute (.Name x p) f pos'] e pos) (setFd i k cls ns fe):=(ps_fld hx he hs).imp fun D σ H zpat=>by
 obtain⟨hid,H0,ρ,ow,o,E,hf',q⟩:=zpat
 obtain⟨d',g1,hf'⟩:=bind_some hf'
 obtain⟨ds,g2,rfl⟩:=map_some hf'
 refine⟨hid,H0,ρ,ow,d',E,g1,fun y H1 s1 Dy=>?_⟩
 obtain⟨a,D',dx,fs,w,d,bs,h1,h2,h3,h4,h5,h6,h7,h8,h9,put⟩:=(E.mono s1).putFld hO g2 hk hf hnd
 obtain rfl:=h8.cl0
 obtain⟨c1,c2⟩:=hC D' h3
 refine⟨.ref a,h1,a,D',dx,fs,rfl,h2,c1,c2,by omega,?_⟩
 have hfs:(fs.map (·.1))[k]?=some f∧(fs.map (·.1)).Nodup:=by
  obtain⟨A,EA,a',D2,dx2,fs2,as,hv,ho,hA,hH,hn,hfs,_⟩:=(E.mono s1).recAt hO g2
  rw[h1] at hv
  cases hv
  rw[h2] at hH
  cases hH
  rw[hfs]
  exact⟨hf,hnd⟩
 rw[putF_at hfs.1 hfs.2]
 obtain⟨ow',e1,e2⟩:=put (upd H1 a (.ins D' dx (fs.set k (f,y)))) [] y d' (fun b o _ hb z=>by rw[upd_ne hb];exact z) (fun _ z=>absurd z List.not_mem_nil) upd_same fun ow' z1 _ _ _=>.cl (Dy.mono fun b o z=>by
  by_cases hb:uni hid ow b
  ·rw[del_in hb] at z;cases z
  ·rw[del_out hb] at z
   have hba:b≠a:=fun y=>hb (.inr (y▸h6))
   rw[del_out fun y=>?_,upd_ne hba]
   ·exact z
   ·rcases y with y | y
    ·exact hb (.inl y)
    ·rcases z1 b y with y | y
     ·exact hb (.inr y)
     ·cases y)
 exact q σ _ ow' ((del_mono s1 _).trans e2) e1
def appFd (i k:Nat)(cls:Str)(ns:List Str)(fe:Rho->Option PyData)(ρ:Rho):Option Out:=(fe ρ).bind fun d'=>((ρ[i]?).join.bind fdsD).bind fun ds=>(ds[k]?.bind listD).bind fun es=>if decide (es.length<1000)=true then some (.nx (ρ.set i (some (objD cls ns (ds.set k (.list (es++[d']))))))) else none
theorem s_appF (hC:FldOk X.K cls f)(hx:PE X (.Name x p) (tVar i))(he:PV X O e fe)(hO:O.s.lookup i=some (.rc oa cls ns ts):=by rfl)(hk:ts[k]?=some (.lst .cl):=by rfl)(hf:ns[k]?=some f:=by rfl)(hnd:ns.Nodup:=by decide +kernel)
  (hb1:attributeBase (.Name x p) f X.env (eval (.Name x p) X.env)=eval (.Name x p) X.env:=by rfl)
  (hbase:attributeBase (.Attribute (.Name x p) f ap) "append" X.env (eval (.Attribute (.Name x p) f ap) X.env)=eval (.Attribute (.Name x p) f ap) X.env:=by rfl)
  (hfew:((backTo cpos (starEach [e] X.env)).all (fun x=>!x.1)&&(backToKw cpos (keywordEach [] X.env)).all (fun x=>x.1.isSome)&&decide ([e].length+([]:List Keyword).length+(if ([]:List Keyword).isEmpty then 0 else 1)<30))=true:=by rfl)
  (hline:(apos.endLine==cpos.line)=true:=by rfl) (hst:starEach [e] X.env=(false,eval e X.env)::starEach [] X.env:=by rfl) (hplain:(backTo cpos (starEach [] X.env)).any (·.1)=false:=by rfl)
  (hs:swapsWith (.Call (.Attribute (.Attribute (.Name x p) f ap) "append" apos) [e] [] cpos) none pos.line X.env=pure false:=by rfl) :
  PSv X O (.Expr (.Call (.Attribute (.Attribute (.Name x p) f ap) "append" apos) [e] [] cpos) pos) (appFd i k cls ns fe):=
 (ps_expr (pe_bm PySem.F.plainAttrs_list PySem.F.slot_list_append PySem.F.type_list_append mt_append (pe_fld hx hb1) (pa_cons he pa_nil hst) hbase hfew hline hst hplain) hs).imp fun D σ H zpat=>by
  obtain⟨hid,H0,ρ,ow,o,E,hf',q⟩:=zpat
  obtain⟨d',g1,hf'⟩:=bind_some hf'
  obtain⟨ds,g2,hf'⟩:=bind_some hf'
  obtain⟨es,g3,hf'⟩:=bind_some hf'
  obtain⟨dl,g4,g5⟩:=bind_some g3
  rw[listD_some g5] at g4
  split at hf'
  case isFalse=>cases hf'
  rename_i hc
  have hc:=of_decide_eq_true hc
  obtain rfl:=Option.some.inj hf'
  obtain⟨a,D',dx,fs,w,d,bs,h1,h2,h3,h4,h5,h6,h7,h8,h9,put⟩:=E.putFld hO g2 hk hf hnd
  rw[g4] at h7
  obtain rfl:=Option.some.inj h7
  obtain⟨c1,c2⟩:=hC D' h3
  cases h8 with
  | @lst _ l vs _ as hl r n=>
   obtain⟨dl',rfl⟩:=r.dl
   refine⟨.ref a,h1,a,D',dx,fs,.ref l,rfl,h2,c1,c2,h4,.inl ⟨rfl,vs,SqL.of hl⟩,hid,H0,ρ,ow,d',E,g1,fun y H1 s1 Dy=>?_⟩
   have hz:1000<sizeLine:=by decide
   refine⟨l,vs,y,rfl,rfl,s1 _ _ hl,by rw[dl'.length];omega,?_⟩
   have hla:l≠a:=(h9 l List.mem_cons_self).2
   have hlo:l∈ow:=(h9 l List.mem_cons_self).1
   have cln:∀ ow':List Addr,(∀ b,b∈ow'->b∈ow∨b∈[l])->Same (del H1 (uni hid ow)) (del (upd H1 l (.lst (vs++[y]))) (uni hid ow')):=fun ow' z1 b o z=>by
    by_cases hb:uni hid ow b
    ·rw[del_in hb] at z;cases z
    ·rw[del_out hb] at z
     have hbl:b≠l:=fun y=>hb (.inr (y▸hlo))
     rw[del_out fun y=>?_,upd_ne hbl]
     ·exact z
     ·rcases y with y | y
      ·exact hb (.inl y)
      ·rcases z1 b y with y | y
       ·exact hb (.inr y)
       ·exact hbl (List.mem_singleton.mp y)
   have hfs:(fs.map (·.1))[k]?=some f∧(fs.map (·.2))[k]?=some (.ref l):=by
    obtain⟨A,EA,a',D2,dx2,fs2,as,hv,ho,hA,hH,hn,hfs,qq,_⟩:=E.recAt hO g2
    rw[h1] at hv
    cases hv
    rw[h2] at hH
    cases hH
    refine⟨by rw[hfs];exact hf,?_⟩
    obtain⟨w2,d2,_,_,hw2,_,_,_⟩:=qq.put hk
    have:=fld_at (by rw[hfs];exact hf) (by rw[hfs];exact hnd) hw2
    rw[h4] at this
    rw[hw2,← Option.some.inj this]
   have hA1:upd H1 l (.lst (vs++[y])) a=some (.ins D' dx (fs.set k (f,.ref l))):=by
    rw[upd_ne (Ne.symm hla),set_same hfs.1 hfs.2]
    exact s1 _ _ h2
   obtain⟨ow',e1,e2⟩:=put (upd H1 l (.lst (vs++[y]))) [l] (.ref l) (.list (es++[d'])) (fun b o hb _ z=>by rw[upd_ne fun y=>hb (List.mem_singleton.mpr y)];exact s1 b o z) (fun _ z=>.inl z) hA1 fun ow' z1 _ _ _=>.lst upd_same (((dl'.mono (del_mono s1 _)).append (.cons Dy .nil)).mono (cln ow' z1)).os (by simp)
   exact q σ _ ow' e2 e1
end
end L2
namespace L2
variable [Reg]
theorem DenO.rcTo {K:PySem.W.Frag}{H C:Hp}{oa ob:Option Addr}{cls:Str}{ns:List Str}{ts:List Ty}{a:Addr}{d:PyData}{as:List Addr}(h:DenO K H C (.rc oa cls ns ts) (.ref a) d as)(ho:∀ b,ob=some b->b=a):DenO K H C (.rc ob cls ns ts) (.ref a) d as:=by
 cases h with
 | rc h0 hH hn hf q na=>exact .rc ho hH hn hf q na
inductive SpRc (K:PySem.W.Frag)(cls:Str)(ns0:List Str)(ts0:List Ty)(ns:List Str)(ts:List Ty)(F:List PyData->Option (PyData×PyData))(vs:List V)(H:Hp)(Q:VK):Prop
 | mk (hid:Addr->Prop) (a:Addr) (as:List Addr) (us:List V) (d0:PyData) (ds:List PyData) (r:PyData×PyData) (e:vs=.ref a::us) (h1:∀ b,hid b->∃ vs:OwO,H b=some vs.ho) (h2:∀ p∈as,¬ hid p) (D0:DenO K H (del H (uni hid as)) (.rc none cls ns0 ts0) (.ref a) d0 as) (Du:DenL K (del H (uni hid as)) us ds) (hF:F (d0::ds)=some r)
  (k:∀ v as' H',(∀ b o,b∉as->H b=some o->H' b=some o)->(∀ p∈as',p∈as∨H p=none)->DenO K H' (del H' (uni hid as')) (.rc none cls ns ts) (.ref a) r.2 as'->Den K (del H' (uni hid as')) v r.1->Q v H'):SpRc K cls ns0 ts0 ns ts F vs H Q
def spRc (K:PySem.W.Frag)(cls:Str)(ns0:List Str)(ts0:List Ty)(ns:List Str)(ts:List Ty)(F:List PyData->Option (PyData×PyData)):Sp:=fun vs H Q _=>SpRc K cls ns0 ts0 ns ts F vs H Q
inductive ThenR (K:PySem.W.Frag)(a:Addr)(cls:Str)(ns:List Str)(ts:List Ty)(hid:Addr->Prop)(H0:Hp)(D:Ends)(o:Out):Prop
 | mk (d s:PyData) (e:o=.rt (.tuple [d,s])) (k:∀ v as H',Same H0 H'->(∀ p∈as,H0 p=none)->DenO K H' (del H' (uni hid as)) (.rc none cls ns ts) (.ref a) s as->Den K (del H' (uni hid as)) v d->D.rt v H'∧(v=.non->∀ σ',D.nx σ' H')):ThenR K a cls ns ts hid H0 D o
def tRc (K:PySem.W.Frag)(O:Ow)(a:Addr)(cls:Str)(ns:List Str)(ts:List Ty)(F:Rho->Option Out):TS:=fun D σ H=>At5 K O F σ H fun hid H0 ρ ow o=>ThenR K a cls ns ts hid H0 D o
abbrev PSR (X:Cx)(O:Ow)(a:Addr)(cls:Str)(ns:List Str)(ts:List Ty)(sts:List Stmt)(F:Rho->Option Out):Prop:=PSs X sts (tRc X.K O a cls ns ts F)
def selfO (d:PyData)(ρ:Rho):Option Out:=((ρ[0]?).join).bind fun s=>(fdsD s).map fun _=>.rt (.tuple [d,s])
section
variable {X:Cx}{O:Ow}{a:Addr}{cls:Str}{ns:List Str}{ts:List Ty}{st:Stmt}{rest:List Stmt}{F G:Rho->Option Out}{e:Expr}{f:Rho->Option PyData}{pos:Pos}
theorem ss_consR (h1:PSv X O st F)(h2:PSR X O a cls ns ts rest G):PSR X O a cls ns ts (st::rest) (seqI F G):=(pss_cons h1 h2).imp fun D σ H zpat=>by
 obtain⟨hid,H0,ρ,ow,o,E,hf,d,s,rfl,k⟩:=zpat
 obtain⟨o1,g1,g2⟩:=bind_some hf
 refine⟨hid,H0,ρ,ow,o1,E,g1,?_⟩
 cases o1 with
 | nx ρ1=>exact fun σ' H' ow' s' E'=>⟨hid,H0,ρ1,ow',_,E',g2,d,s,rfl,k⟩
 | rt d=>exact L2.no_ns g2
 | bk ρ1=>exact L2.no_ns g2
 | ct ρ1=>exact L2.no_ns g2
theorem EnvOk.selfAt {K:PySem.W.Frag}{hid:Addr->Prop}{H0 H:Hp}{σ:St}{ρ:Rho}{ow:List Addr}(E:EnvOk K O hid H0 σ H ρ ow){d s:PyData}{o:Out}(hO:O.s.lookup 0=some (.rc (some a) cls ns ts))(h:selfO d ρ=some o) :
  ∃ s as,o=.rt (.tuple [d,s])∧(∀ p∈as,p∈ow)∧DenO K H (del H (uni hid ow)) (.rc none cls ns ts) (.ref a) s as:=by
 obtain⟨s,h1,h⟩:=bind_some h
 obtain⟨ds,h2,rfl⟩:=map_some h
 obtain⟨A,EA⟩:=E.own
 obtain⟨v,hv,D⟩:=EA.1 0 _ s hO (join_some h1)
 have a3:=EA.2.2 0
 generalize A 0=A0 at D a3
 cases D with
 | non=>cases h2
 | rc ho hH hn hf q na=>
  have:=ho a rfl
  subst this
  exact⟨_,_,rfl,a3,.rc (fun b z=>by cases z) hH hn hf q na⟩
def retR (f:Rho->Option PyData)(ρ:Rho):Option Out:=(f ρ).bind fun d=>selfO d ρ
theorem ss_retR (h:PV X O e f)(hO:O.s.lookup 0=some (.rc (some a) cls ns ts):=by rfl):PSR X O a cls ns ts [.Return (some e) pos] (retR f):=(pss_one (ps_ret h)).imp fun D σ H zpat=>by
 obtain⟨hid,H0,ρ,ow,o,E,hf,d,s,e1,k⟩:=zpat
 obtain⟨d',g1,g2⟩:=bind_some hf
 obtain⟨s',as,e2,ha,D0⟩:=E.selfAt (s:=s) hO g2
 rw[e2] at e1
 injection e1 with e1
 injection e1 with e1
 injection e1 with e1 e3
 injection e3 with e3 _
 subst e1 e3
 refine⟨hid,H0,ρ,ow,d',E,g1,fun v H' sm Dv=>(k v as H' (E.baseS.trans sm) (fun p hp=>E.ow0 (ha p hp)) (D0.mono (fun b o z=>?_) fun p _ o z=>sm p o z) (Dv.mono (del_sub fun b z=>z.imp id fun y=>ha b y))).1⟩
 exact (del_mono sm _).trans (del_sub fun b z=>z.imp id fun y=>ha b y) b o z
theorem ss_endR (hO:O.s.lookup 0=some (.rc (some a) cls ns ts):=by rfl):PSR X O a cls ns ts [] (selfO .none):=pss_nil.imp fun D σ H zpat=>by
 obtain⟨hid,H0,ρ,ow,o,E,hf,d,s,e1,k⟩:=zpat
 obtain⟨s',as,e2,ha,D0⟩:=E.selfAt (s:=s) hO hf
 rw[e2] at e1
 injection e1 with e1
 injection e1 with e1
 injection e1 with e1 e3
 injection e3 with e3 _
 subst e1 e3
 exact (k .non as H E.baseS (fun p hp=>E.ow0 (ha p hp)) (D0.mono (del_sub fun b z=>z.imp id fun y=>ha b y) fun p _ o z=>z) .non).2 rfl σ
end
def outRc (o:Option Out):Option (PyData×PyData):=(o.bind outR).bind fun d=>(isTu d).bind two
def runRc (n m:Nat)(B:Rho->Option Out)(ds:List PyData):Option (PyData×PyData):=if ds.length=n then outRc (B (ds.map some++List.replicate m none)) else none
theorem runRc_some {n m:Nat}{B:Rho->Option Out}{ds:List PyData}{r:PyData×PyData}(h:runRc n m B ds=some r):ds.length=n∧B (ds.map some++List.replicate m none)=some (.rt (.tuple [r.1,r.2])):=by
 unfold runRc at h
 split at h
 ·refine⟨by assumption,?_⟩
  obtain⟨d,h0,h⟩:=bind_some h
  obtain⟨o,h1,h2⟩:=bind_some h0
  obtain⟨es,h3,h4⟩:=bind_some h
  rw[h1]
  cases o with
  | rt e=>
   obtain rfl:=Option.some.inj h2
   rw[isTu_some h3,two_some h4]
  | _=>exact L2.no_ns h2
 ·exact L2.no_ns h
theorem fn_autoR {P:Program}{w:World}{K:PySem.W.Frag}{mg:Str->Option Value}{base:Heap}{x qual:Str}{st:Stmt}{f:Addr}{fd:FuncData}{N ps:List Str}{k:Nat}{cls:Str}{ns0 ns:List Str}{ts0 ts:List Ty}(O:Addr->Ow)(F:Fun K x qual st f fd)(S:FnScope N ps (defScope st))
  (h0:∀ a,(O a).s.lookup 0=some (.rc (some a) cls ns0 ts0)) (idx:List Nat) (hix:∀ a,(O a).s.map (·.1)=idx) (hO:∀ i∈idx,i=0∨ps.length≤i) (B:Rho->Option Out)
  (hbody:∀ (a:Addr) (cdv:Value),CdOk K f cdv->∀ (A:Around) (outer:List Env) (s:Shared) (H:Hp) (E:XK),Room k (A.deeper (envOfC qual (defScope st) s.heap.objs.size f cdv)) ->
   PSR (cxOf CX0 P w K mg base N qual (defScope st) f cdv A outer s H E).nox (O a) a cls ns ts (defBody st) B) :
  FnOk P w K mg base CX0 (k+1) f fd ps (spRc K cls ns0 ts0 ns ts (runRc ps.length (N.length - ps.length) B)):=by
 refine fn_okC F S (fun vs H Q E h=>?_) (fun cdv hk A outer s H vs Q E hr h=>?_)
 ·obtain⟨hid,a,as,us,d0,ds,r,rfl,h1,h2,D0,Du,hF,q⟩:=h
  have:=(runRc_some hF).1
  rw[List.length_cons] at this ⊢
  rw[Du.length]
  exact this
 ·obtain⟨hid,a,as,us,d0,ds,r,rfl,h1,h2,D0,Du,hF,q⟩:=h
  obtain⟨hl,hB⟩:=runRc_some hF
  refine⟨_,hbody a cdv hk A outer s H E hr,?_⟩
  have get:∀ (i:Nat) (d:PyData),((d0::ds).map some++List.replicate (N.length - ps.length) none)[i]?=some (some d)->(i=0∧d=d0)∨(0<i∧i<ps.length∧∃ v,(start N (.ref a::us))[i]?=some (some v)∧Den K (del H (uni hid as)) v d):=fun i d e=>by
   cases i with
   | zero=>exact .inl ⟨rfl,(Option.some.inj (Option.some.inj e)).symm⟩
   | succ i=>
    refine .inr ⟨Nat.zero_lt_succ _,?_⟩
    rw[List.map_cons,List.cons_append,List.getElem?_cons_succ] at e
    by_cases hi:i<ds.length
    ·rw[List.getElem?_append_left (by simpa using hi),List.getElem?_map] at e
     obtain⟨d',e1,e2⟩:=Option.map_eq_some_iff.mp e
     obtain rfl:=Option.some.inj e2
     obtain⟨v,e3,e4⟩:=Du.get e1
     refine⟨by rw[← hl,List.length_cons];omega,v,?_,e4⟩
     unfold start
     rw[List.map_cons,List.cons_append,List.getElem?_cons_succ,List.getElem?_append_left (by rw[List.length_map,Du.length];exact hi),List.getElem?_map,e3]
     rfl
    ·rw[List.getElem?_append_right (by simpa using Nat.le_of_not_lt hi),List.getElem?_replicate] at e
     split at e <;> cases e
  have E0:EnvOk K (O a) hid (del H fun b=>b∈as) (start N (.ref a::us)) H ((d0::ds).map some++List.replicate (N.length - ps.length) none) as:=by
   refine⟨by unfold start;have:=Du.length;simp[this,← hl],fun b o e=>e,fun i d hi e=>?_,⟨fun i=>if i=0 then as else [],fun i t d hi e=>?_,fun i m p him hp hm=>?_,fun i p hp=>?_⟩,fun m hm=>⟨D0.lists m hm,h2 m hm⟩,h1,fun z=>?_⟩
   ·rcases get i d e with ⟨z,_⟩ | ⟨_,_,v,e1,e2⟩
    ·rw[z,h0 a] at hi;cases hi
    ·exact⟨v,e1,e2⟩
   ·rcases hO i (hix a▸lookTy_mem hi) with z | z
    ·subst z
     rw[h0 a] at hi
     obtain rfl:=Option.some.inj hi
     rcases get 0 d e with ⟨_,rfl⟩ | ⟨z,_⟩
     ·refine⟨.ref a,rfl,?_⟩
      dsimp only
      rw[if_pos rfl]
      exact D0.rcTo fun b z=>(Option.some.inj z).symm
     ·cases z
    ·rcases get i d e with ⟨y,_⟩ | ⟨_,y,_⟩
     ·have:0<ps.length:=by rw[← hl,List.length_cons];omega
      omega
     ·omega
   ·dsimp only at hp hm
    split at hp
    ·split at hm
     ·subst_vars;exact him rfl
     ·cases hm
    ·cases hp
   ·dsimp only at hp
    split at hp
    ·exact hp
    ·cases hp
   ·have:=h0 a
    rw[z] at this
    exact L2.no_ns this
  refine⟨hid,_,_,as,_,E0,hB,r.1,r.2,rfl,fun v as' H' s' n D' Dv=>?_⟩
  have qq:Q v H':=q v as' H' (fun b o hb z=>s' b o (by rw[del_out hb];exact z)) (fun p hp=>?_) D' Dv
  ·exact⟨qq,fun z σ'=>by rw[z] at qq;exact qq⟩
  ·have z:=n p hp
   by_cases hb:p∈as
   ·exact .inl hb
   ·rw[del_out hb] at z
    exact .inr z
def DefRc (P:Program)(w:World)(K:PySem.W.Frag)(mg:Str->Option Value)(base:Heap)(k:Nat)(cls m:Str)(ps:List Str)(ns:List Str)(ts:List Ty)(F:List PyData->Option (PyData×PyData)):Prop:=
 ∃ C f fd,Cls K C∧Meth K C m f∧FnOk P w K mg base CX0 k f fd ps (spRc K cls ns ts ns ts F)∧PySem.W.nsIn K mainGlobals cls=some (some (.ref C))∧Binds K fd ps []
theorem look_no {m:Str}:∀ {fs:List (Str×V)},(fs.map (·.1)).contains m=false->fs.lookup m=none
 | [],_=>rfl
 | (g,v)::r,h=>by
  rw[List.map_cons,List.contains_cons,Bool.or_eq_false_iff] at h
  rw[List.lookup_cons,h.1]
  exact look_no h.2
section
variable {X:Cx}{O:Ow}{a:Expr}{es:List Expr}{fs:Rho->Option (List PyData)}{i k:Nat}{x m cls:Str}{ns ps:List Str}{ts:List Ty}{oa:Option Addr}{F:List PyData->Option (PyData×PyData)}{p apos cpos pos:Pos}{pl:Sem Bool}
def methR (i:Nat)(F:List PyData->Option (PyData×PyData))(fs:Rho->Option (List PyData))(ρ:Rho):Option Out:=((ρ[i]?).join.bind fdsD).bind fun _=>((ρ[i]?).join).bind fun d0=>(fs ρ).bind fun ds=>(F (d0::ds)).map fun r=>.nx (ρ.set i (some r.2))
theorem EnvOk.lendR {K:PySem.W.Frag}{hid:Addr->Prop}{H0 H:Hp}{σ:St}{ρ:Rho}{ow:List Addr}(E:EnvOk K O hid H0 σ H ρ ow){d0:PyData}{ds:List PyData}{us:List V}{r:PyData×PyData}{D:Ends}{b:Addr}(hO:O.s.lookup i=some (.rc oa cls ns ts))(hρ:(ρ[i]?).join=some d0)(hd:(fdsD d0).isSome=true)(hb:σ[i]?=some (some (.ref b)))(Du:DenL K (del H (uni hid ow)) us ds)(hF:F (d0::ds)=some r){Q:VK}
  (k:∀ v H' ow',Same (del H (uni hid ow)) (del H' (uni hid ow'))->EnvOk K O hid H0 σ H' (ρ.set i (some r.2)) ow'->Q v H'):SpRc K cls ns ts ns ts F (.ref b::us) H Q:=by
 obtain⟨A,EA⟩:=E.own
 have hj:=join_some hρ
 obtain⟨v,hv,D0⟩:=EA.1 i _ d0 hO hj
 rw[hb] at hv
 obtain rfl:=Option.some.inj (Option.some.inj hv)
 have a3:=EA.2.2 i
 have ho:∀ c,oa=some c->c=b:=by
  generalize A i=Ai at D0
  cases D0 with
  | rc ho _ _ _ _ _=>exact ho
 have nh:∀ q,hid q->q∉A i:=fun q z y=>(E.isl q (a3 q y)).2 z
 have eu:uni (fun q=>uni hid ow q∧q∉A i) (A i)=uni hid ow:=by
  funext q
  apply propext
  constructor
  ·rintro (z | z)
   ·exact z.1
   ·exact .inr (a3 q z)
  ·intro z
   by_cases y:q∈A i
   ·exact .inr y
   ·exact .inl ⟨z,y⟩
 refine⟨fun q=>uni hid ow q∧q∉A i,b,A i,us,d0,ds,r,rfl,fun q z=>E.uniL q z.1,fun q z y=>y.2 z,by rw[eu];exact D0.rcTo (fun c z=>nomatch z),by rw[eu];exact Du,hF,fun v as' H' s n D' Dv=>?_⟩
 have eu2:uni (fun q=>uni hid ow q∧q∉A i) as'=uni hid (as'++restO ow (A i)):=by
  funext q
  apply propext
  unfold uni
  simp only[List.mem_append,mem_restO]
  constructor
  ·rintro (⟨z | z,y⟩ | z)
   ·exact .inl z
   ·exact .inr (.inr ⟨z,y⟩)
   ·exact .inr (.inl z)
  ·rintro (z | z | ⟨z,y⟩)
   ·exact .inl ⟨.inl z,nh q z⟩
   ·exact .inr z
   ·exact .inl ⟨.inr z,y⟩
 rw[eu2] at D'
 obtain⟨e1,e2⟩:=E.tree EA hO (List.getElem?_eq_some_iff.mp hj).1 hb s n (D'.rcTo ho)
 exact k v H' _ e2 e1
theorem s_methR0 (G:DefRc X.prog X.w X.K X.mg X.base k cls m ps ns ts F)(hr:Room k X.A)(hx:PE X (.Name x p) (tVar i))(hO:O.s.lookup i=some (.rc oa cls ns ts):=by rfl)(hm:ns.contains m=false:=by decide +kernel)
  (ht:eval (.Call (.Attribute (.Name x p) m apos) [] [] cpos) X.env=(do
   let ov ← eval (.Name x p) X.env
   standAt apos.atName
   let (f,first) ← holding [ov] (getMethod ov m pl)
   callWith cpos f first (backTo cpos (starEach [] X.env)) (backToKw cpos (keywordEach [] X.env))):=by rfl)
  (hs:swapsWith (.Call (.Attribute (.Name x p) m apos) [] [] cpos) none pos.line X.env=pure false:=by rfl) :
  PSv X O (.Expr (.Call (.Attribute (.Name x p) m apos) [] [] cpos) pos) (methR i F fun _=>some []):=by
 obtain⟨C,f,fd,c,hm',g1,g2,g3⟩:=G
 exact (ps_expr (pe_meth0 (pl:=pl) hx c hm' g1 hr g3 .nil pass0 ht) hs).imp fun D σ H zpat=>by
  obtain⟨hid,H0,ρ,ow,o,E,hf,q⟩:=zpat
  obtain⟨fd0,e0,hf⟩:=bind_some hf
  obtain⟨d0,e1,hf⟩:=bind_some hf
  obtain⟨ds,e2,hf⟩:=bind_some hf
  obtain⟨r,e3,rfl⟩:=map_some hf
  obtain rfl:=Option.some.inj e2
  obtain⟨A,EA,b,D',dx,fs',as,hv,ho,hA,hH,hn,hfs,_,_,_⟩:=E.recAt hO e0
  rw[g2] at hn
  obtain rfl:C=D':=by injection hn with z;injection z with z;injection z
  refine⟨.ref b,hv,b,dx,fs',rfl,hH,look_no (by rw[hfs];exact hm),?_⟩
  have hd:(fdsD d0).isSome=true:=by
   rw[e1,Option.bind_some] at e0
   rw[e0]
   rfl
  exact E.lendR (D:=D) hO e1 hd hv .nil e3 fun v H' ow' s2 E2=>q σ H' ow' s2 E2
end
def DefM (P:Program)(w:World)(K:PySem.W.Frag)(mg:Str->Option Value)(base:Heap)(k:Nat)(cls m:Str)(ps:List Str)(T:Ty)(F:List PyData->Option PyData):Prop:=
 ∃ C f fd,Cls K C∧Meth K C m f∧FnOk P w K mg base CX0 k f fd ps (spR K T F)∧PySem.W.nsIn K mainGlobals cls=some (some (.ref C))∧Binds K fd ps []
def isObD (cls m:Str):PyData->Bool
 | .dict [(.bool false,.str c),(.none,.tuple nn),(_,_)]=>decide (c=cls)&&nn.all fun n=>match n with | .str g=>decide (g≠m) | _=>false
 | _=>false
theorem isObD_some {K:PySem.W.Frag}{H:Hp}{v:V}{d:PyData}{cls m:Str}(h:Den K H v d)(q:isObD cls m d=true):∃ a C dx fs,v=.ref a∧H a=some (.ins C dx fs)∧PySem.W.nsIn K mainGlobals cls=some (some (.ref C))∧fs.lookup m=none:=by
 cases h with
 | @obj a c fs fd h D=>
  have q':(decide (c=cls)&&((fs.map (·.1)).map PyData.str).all fun n=>match n with | .str g=>decide (g≠m) | _=>false)=true:=q
  rw[Bool.and_eq_true,decide_eq_true_iff] at q'
  obtain⟨rfl,q2⟩:=q'
  obtain⟨C,dx,h1,h2⟩:=h
  refine⟨a,C,dx,fs,rfl,h1,h2,?_⟩
  clear h1 D q
  induction fs with
  | nil=>rfl
  | cons pr r ih=>
   obtain⟨g,x⟩:=pr
   rw[List.map_cons,List.map_cons,List.all_cons,Bool.and_eq_true] at q2
   rw[List.lookup_cons,beq_eq_false_iff_ne.mpr fun z=>(of_decide_eq_true q2.1) z.symm]
   exact ih q2.2
 | _=>cases q
section
variable {X:Cx}{O:Ow}{o a:Expr}{es:List Expr}{fo:Rho->Option PyData}{fs:Rho->Option (List PyData)}{k:Nat}{m cls:Str}{ps:List Str}{T:Ty}{F:List PyData->Option PyData}{apos cpos:Pos}{pl:Sem Bool}
def callM (cls m:Str)(F:List PyData->Option PyData)(fo:Rho->Option PyData)(fs:Rho->Option (List PyData))(ρ:Rho):Option PyData:=(fo ρ).bind fun d=>if isObD cls m d=true then (fs ρ).bind fun ds=>F (d::ds) else none
theorem r_callM (G:DefM X.prog X.w X.K X.mg X.base k cls m ps T F)(hr:Room k X.A)(ho:PR X O o fo)(ha:PAr X O (a::es) fs)(hst:starEach (a::es) X.env=(false,eval a X.env)::starEach es X.env:=by rfl)(hpl:(backTo cpos (starEach es X.env)).any (·.1)=false:=by rfl)
  (ht:eval (.Call (.Attribute o m apos) (a::es) [] cpos) X.env=(do
   let ov ← eval o X.env
   standAt apos.atName
   let (f,first) ← holding [ov] (getMethod ov m pl)
   callWith cpos f first (backTo cpos (starEach (a::es) X.env)) (backToKw cpos (keywordEach [] X.env))):=by rfl) :
  PR X O (.Call (.Attribute o m apos) (a::es) [] cpos) (callM cls m F fo fs):=by
 obtain⟨C,f,fd,c,hm',g1,g2,g3⟩:=G
 exact (pe_meth (pl:=pl) ho c hm' g1 hr g3 .nil pass0 ha hst hpl ht).imp fun σ H Q zpat=>by
  obtain⟨hid,H0,ρ,ow,r,E,hf,q⟩:=zpat
  obtain⟨d,e1,hf⟩:=bind_some hf
  split at hf
  case isFalse=>cases hf
  rename_i hob
  obtain⟨ds,e2,e3⟩:=bind_some hf
  refine⟨hid,H0,ρ,ow,d,E,e1,fun v H1 s1 D1=>?_⟩
  obtain⟨b,C',dx,fs',rfl,h1,h2,h3⟩:=isObD_some D1 hob
  rw[g2] at h2
  obtain rfl:C=C':=by injection h2 with z;injection z with z;injection z
  refine⟨b,dx,fs',rfl,del_same _ _ _ _ h1,h3,hid,H0,ρ,ow,ds,E.mono s1,e2,fun us H2 s2 D2=>?_⟩
  dsimp only
  rw[List.append_nil]
  refine⟨hid,d::ds,r,(E.mono (s1.trans s2)).ishL,.cons (D1.mono (del_mono s2 _)) D2,e3,fun v as H3 s3 n3 D3=>q v H3 ((s1.trans s2).trans s3) (D3.raw (del_uni _ _ _) fun p hp o e=>?_)⟩
  rw[del_out fun z=>(E.mono (s1.trans s2)).ish p z (n3 p hp)]
  exact e
theorem r_callM0 (G:DefM X.prog X.w X.K X.mg X.base k cls m ps T F)(hr:Room k X.A)(ho:PR X O o fo)
  (ht:eval (.Call (.Attribute o m apos) [] [] cpos) X.env=(do
   let ov ← eval o X.env
   standAt apos.atName
   let (f,first) ← holding [ov] (getMethod ov m pl)
   callWith cpos f first (backTo cpos (starEach [] X.env)) (backToKw cpos (keywordEach [] X.env))):=by rfl) :
  PR X O (.Call (.Attribute o m apos) [] [] cpos) (callM cls m F fo fun _=>some []):=by
 obtain⟨C,f,fd,c,hm',g1,g2,g3⟩:=G
 exact (pe_meth0 (pl:=pl) ho c hm' g1 hr g3 .nil pass0 ht).imp fun σ H Q zpat=>by
  obtain⟨hid,H0,ρ,ow,r,E,hf,q⟩:=zpat
  obtain⟨d,e1,hf⟩:=bind_some hf
  split at hf
  case isFalse=>cases hf
  rename_i hob
  obtain⟨ds,e2,e3⟩:=bind_some hf
  obtain rfl:=Option.some.inj e2
  refine⟨hid,H0,ρ,ow,d,E,e1,fun v H1 s1 D1=>?_⟩
  obtain⟨b,C',dx,fs',rfl,h1,h2,h3⟩:=isObD_some D1 hob
  rw[g2] at h2
  obtain rfl:C=C':=by injection h2 with z;injection z with z;injection z
  refine⟨b,dx,fs',rfl,del_same _ _ _ _ h1,h3,?_⟩
  refine⟨hid,[d],r,(E.mono s1).ishL,.cons D1 .nil,e3,fun v as H3 s3 n3 D3=>q v H3 (s1.trans s3) (D3.raw (del_uni _ _ _) fun p hp o e=>?_)⟩
  rw[del_out fun z=>(E.mono s1).ish p z (n3 p hp)]
  exact e
end
end L2
namespace L2
variable [Reg]
theorem putF_new {f:Str}{y:V}:∀ {fs:List (Str×V)},f∉fs.map (·.1)->putF f y fs=fs++[(f,y)]
 | [],_=>rfl
 | (g,x)::r,h=>by
  rw[List.map_cons] at h
  show (if g=f then _ else _)=_
  rw[if_neg (fun z:g=f=>h (by rw[← z];exact List.mem_cons_self)),putF_new fun z=>h (List.mem_cons_of_mem _ z)]
  rfl
theorem DenOp.snoc {K:PySem.W.Frag}{H C:Hp}{t:Ty}{v:V}{d:PyData}{bs:List Addr}(h:DenO K H C t v d bs){ts:List Ty}{vs:List V}{ds:List PyData}{as:List Addr}(q:DenOp K H C ts vs ds as):(∀ p∈as,p∉bs)->DenOp K H C (ts++[t]) (vs++[v]) (ds++[d]) (as++bs):=
 q.ind (P:=fun ts vs ds as=>(∀ p∈as,p∉bs)->DenOp K H C (ts++[t]) (vs++[v]) (ds++[d]) (as++bs)) (fun _=>by
  have:=DenOp.cons h .nil (fun p _ z=>by cases z)
  rw[List.append_nil] at this
  exact this) fun {t0 ts v0 d0 vs ds as cs} h0 r n ih hb=>by
  rw[List.append_assoc]
  refine .cons h0 (ih fun p hp=>hb p (List.mem_append_right _ hp)) fun p hp z=>?_
  rcases List.mem_append.mp z with z | z
  ·exact n p hp z
  ·exact hb p (List.mem_append_left _ hp) z
section
variable {X:Cx}{O O':Ow}{e:Expr}{fe:Rho->Option PyData}{a:Addr}{x f cls:Str}{ns0 ns:List Str}{ts0 ts:List Ty}{T:Ty}{p pos pos':Pos}{rest:List Stmt}{G:Rho->Option Out}
def newF (cls:Str)(ns:List Str)(fe:Rho->Option PyData)(G:Rho->Option Out)(ρ:Rho):Option Out:=(fe ρ).bind fun d'=>((ρ[0]?).join.bind fdsD).bind fun ds=>G (ρ.set 0 (some (objD cls ns (ds++[d']))))
theorem ss_newF (hC:FldOk X.K cls f)(hx:PE X (.Name x p) (tVar 0))(he:PFt X O T e fe)(hr:PSR X O' a cls ns ts rest G)(hO:O.s.lookup 0=some (.rc (some a) cls ns0 ts0):=by rfl)(hO2:O'.s.lookup 0=some (.rc (some a) cls (ns0++[f]) (ts0++[T])):=by rfl)(hoth:∀ j,j≠0->O'.s.lookup j=O.s.lookup j:=by intro j hj;cases j with | zero=>exact absurd rfl hj | succ j=>rfl)
  (hf:ns0.contains f=false:=by decide +kernel) (hlen:ns0.length<1000:=by decide) (hs:swapsWith e (some (.Attribute (.Name x p) f pos')) pos.line X.env=pure false:=by rfl) :
  PSR X O a cls ns ts (.Assign [.Attribute (.Name x p) f pos'] e pos::rest) (newF cls (ns0++[f]) fe G):=(pss_cons (ps_fld hx he hs) hr).imp fun D σ H zpat=>by
 obtain⟨hid,H0,ρ,ow,o,E,hf',dd,ss,rfl,q⟩:=zpat
 obtain⟨d',g1,hf'⟩:=bind_some hf'
 obtain⟨ds,g2,g3⟩:=bind_some hf'
 refine⟨hid,H0,ρ,ow,d',E,g1,fun y bs H1 s1 n1 Dy=>?_⟩
 obtain⟨A,EA,b,D',dx,fs,as,hv,ho,hA,hH,hn,hfs,qq,na,hl⟩:=E.recAt hO g2
 obtain⟨c1,c2⟩:=hC D' hn
 have hlf:fs.length=ns0.length:=by rw[← hfs,List.length_map]
 refine⟨.ref b,hv,b,D',dx,fs,rfl,s1 _ _ hH,c1,c2,by omega,?_⟩
 have hfn:f∉fs.map (·.1):=fun z=>by
  rw[hfs] at z
  rw[List.contains_iff_mem.mpr z] at hf
  cases hf
 rw[putF_new hfn]
 have bow:b∈ow:=EA.2.2 0 b (by rw[hA];exact List.mem_cons_self)
 have asow:∀ p∈as,p∈ow:=fun p hp=>EA.2.2 0 p (by rw[hA];exact List.mem_cons_of_mem _ hp)
 have now:∀ p∈bs,p∉ow:=fun p hp z=>by
  obtain⟨⟨w,e⟩,_⟩:=E.isl p z
  rw[n1 p hp] at e;cases e
 have eu:uni hid (bs++ow)=uni hid ((b::(as++bs))++restO ow (A 0)):=by
  funext q
  apply propext
  unfold uni
  simp only[List.mem_append,List.mem_cons,mem_restO,hA]
  constructor
  ·rintro (z | z | z)
   ·exact .inl z
   ·exact .inr (.inl (.inr (.inr z)))
   ·by_cases h1:q=b
    ·exact .inr (.inl (.inl h1))
    ·by_cases h2:q∈as
     ·exact .inr (.inl (.inr (.inl h2)))
     ·exact .inr (.inr ⟨z,fun y=>y.elim h1 h2⟩)
  ·rintro (z | (z | z | z) | z)
   ·exact .inl z
   ·exact .inr (.inr (z▸bow))
   ·exact .inr (.inr (asow q z))
   ·exact .inr (.inl z)
   ·exact .inr (.inr z.1)
 have hub:uni hid (bs++ow) b:=.inr (List.mem_append_right _ bow)
 have ed:del (upd H1 b (.ins D' dx (fs++[(f,y)]))) (uni hid (bs++ow))=del H1 (uni hid (bs++ow)):=del_upd hub
 have cl0:Same (del H (uni hid ow)) (del H1 (uni hid (bs++ow))):=fun q o z=>by
  by_cases hq:uni hid ow q
  ·rw[del_in hq] at z;cases z
  ·rw[del_out hq] at z
   rw[del_out fun w=>?_]
   ·exact s1 q o z
   ·rcases w with w | w
    ·exact hq (.inl w)
    ·rcases List.mem_append.mp w with w | w
     ·rw[n1 q w] at z;cases z
     ·exact hq (.inr w)
 have hD:DenO X.K (upd H1 b (.ins D' dx (fs++[(f,y)]))) (del (upd H1 b (.ins D' dx (fs++[(f,y)]))) (uni hid ((b::(as++bs))++restO ow (A 0)))) (.rc (some a) cls (ns0++[f]) (ts0++[T])) (.ref b) (objD cls (ns0++[f]) (ds++[d'])) (b::(as++bs)):=by
  rw[← eu,ed]
  have m1:DenOp X.K (upd H1 b (.ins D' dx (fs++[(f,y)]))) (del H1 (uni hid (bs++ow))) ts0 (fs.map (·.2)) ds as:=qq.mono cl0 fun p hp o z=>by
   rw[upd_ne (show p≠b from fun w=>na (w▸hp))]
   exact s1 p o z
  have m2:DenO X.K (upd H1 b (.ins D' dx (fs++[(f,y)]))) (del H1 (uni hid (bs++ow))) T y d' bs:=Dy.mono (Same.refl _) fun p hp o z=>by
   rw[upd_ne (show p≠b from fun w=>now p hp (w▸bow))]
   exact z
  have m3:=DenOp.snoc m2 m1 fun p hp z=>now p z (asow p hp)
  refine .rc ho upd_same hn (by rw[List.map_append,hfs];rfl) ?_ fun z=>?_
  ·rw[List.map_append]
   exact m3
  ·rcases List.mem_append.mp z with z | z
   ·exact na z
   ·exact now b z bow
 obtain⟨e1,e2⟩:=E.treeO EA hO hO2 hoth hl hv (fun q o hq z=>by
  rw[upd_ne (show q≠b from fun w=>hq (by rw[hA,w];exact List.mem_cons_self))]
  exact s1 q o z) (fun p hp=>by
  rcases List.mem_cons.mp hp with z | z
  ·exact .inl (by rw[hA,z];exact List.mem_cons_self)
  ·rcases List.mem_append.mp z with z | z
   ·exact .inl (by rw[hA];exact List.mem_cons_of_mem _ z)
   ·exact .inr (n1 p z)) hD
 exact⟨hid,H0,_,_,_,e1,g3,dd,ss,rfl,q⟩
end
def DefW (P:Program)(w:World)(K:PySem.W.Frag)(mg:Str->Option Value)(base:Heap)(k:Nat)(cls:Str)(ps:List Str)(ns:List Str)(ts:List Ty)(F:List PyData->Option (PyData×PyData)):Prop:=
 ∃ C f fd,Mk K C f∧FnOk P w K mg base CX0 k f fd ps (spRc K cls [] [] ns ts F)∧mg cls=some (.ref C)∧PySem.W.nsIn K mainGlobals cls=some (some (.ref C))∧Binds K fd ps []
section
variable {X:Cx}{O:Ow}{a:Expr}{es:List Expr}{pos p:Pos}{fs:Rho->Option (List PyData)}{k:Nat}{ps:List Str}{cls:Str}{ns:List Str}{ts:List Ty}{F:List PyData->Option (PyData×PyData)}
def newW (cls:Str)(F:List PyData->Option (PyData×PyData))(x:Option (List PyData)):Option PyData:=x.bind fun ds=>(F (objD cls [] []::ds)).bind fun r=>match r.1 with
 | .none=>some r.2
 | _=>none
theorem ft_makeW (G:DefW X.prog X.w X.K X.mg X.base k cls ps ns ts F)(hr:Room (k+1) X.A)(hg:Gl X cls)(ha:PAv X O (a::es) fs)(hdb:(cls==("__debug__":Str))=false:=by decide)(he:starEach (a::es) X.env=(false,eval a X.env)::starEach es X.env:=by rfl)(hpl:(backTo pos (starEach es X.env)).any (·.1)=false:=by rfl) :
  PFt X O (.rc none cls ns ts) (.Call (.Name cls p) (a::es) [] pos) (fun ρ=>newW cls F (fs ρ)):=by
 obtain⟨C,f,fd,M,g1,g2,g3,g4⟩:=G
 exact (pe_make M g1 hr hg g2 g4 .nil pass0 ha hdb he hpl).imp fun σ H Q zpat=>by
  obtain⟨hid,H0,ρ,ow,d,E,hf,q⟩:=zpat
  obtain⟨ds,h1,hf⟩:=bind_some hf
  obtain⟨r,h2,h3⟩:=bind_some hf
  obtain⟨r1,r2⟩:=r
  have hr1:r1=.none∧d=r2:=by
   cases r1 with
   | none=>exact⟨rfl,(Option.some.inj h3).symm⟩
   | _=>cases h3
  obtain⟨rfl,rfl⟩:=hr1
  refine⟨hid,H0,ρ,ow,ds,E,h1,fun vs H1 s1 D1 x dx nx ndx hne=>?_⟩
  rw[List.append_nil]
  have E1:=E.mono s1
  have sN:Same H1 (upd (upd H1 dx (.own x)) x (.ins C dx [])):=fun b o z=>by
   rw[upd_ne (ne_of_none z nx),upd_ne (ne_of_none z ndx)]
   exact z
  have c0:Same (del H1 (uni hid ow)) (del (upd (upd H1 dx (.own x)) x (.ins C dx [])) (uni (uni hid ow) [x])):=fun b o z=>by
   by_cases hb:uni hid ow b
   ·rw[del_in hb] at z;cases z
   ·rw[del_out hb] at z
    rw[del_out fun w=>?_]
    ·exact sN b o z
    ·rcases w with w | w
     ·exact hb w
     ·rw[List.mem_singleton.mp w,nx] at z;cases z
  refine⟨uni hid ow,x,[x],vs,objD cls [] [],ds,(.none,d),rfl,fun b hb=>?_,fun q hq=>?_,.rc (fs:=[]) (fun b z=>nomatch z) upd_same g3 rfl .nil (by simp),D1.mono c0,h2,fun v as' H' s n D' Dv=>⟨?_,?_⟩⟩
  ·obtain⟨w,z⟩:=E1.uniL b hb
   exact⟨w,sN _ _ z⟩
  ·rw[List.mem_singleton.mp hq]
   exact E1.fresh nx
  ·cases Dv;rfl
  ·have s2:Same H1 H':=fun b o z=>s b o (fun w=>by rw[List.mem_singleton.mp w,nx] at z;cases z) (sN b o z)
   refine q (.ref x) as' H' (s1.trans s2) (fun b hb=>?_) (D'.mono (del_sub fun b z=>?_) fun p _ o z=>z)
   ·have hn:H1 b=none:=by
     rcases n b hb with z | z
     ·rw[List.mem_singleton.mp z];exact nx
     ·cases e:H1 b with
      | none=>rfl
      | some o=>rw[sN b o e] at z;cases z
    exact s1.free hn
   ·rcases z with z | z
    ·exact .inl (.inl z)
    ·rcases List.mem_append.mp z with z | z
     ·exact .inr z
     ·exact .inl (.inr z)
end
section
variable {K:PySem.W.Frag}{O O':Ow}{hid:Addr->Prop}{H0 H:Hp}{σ:St}{ρ:Rho}{ow:List Addr}
theorem EnvOk.loose (E:EnvOk K O hid H0 σ H ρ ow){i k:Nat}{oa:Option Addr}{cls f:Str}{ns:List Str}{ts:List Ty}{ds es:List PyData}(hi:O.s.lookup i=some (.rc oa cls ns ts))(hi2:O'.s.lookup i=some (.rc oa cls ns (ts.set k .cl)))(hoth:∀ j,j≠i->O'.s.lookup j=O.s.lookup j)(hd:(ρ[i]?).join=some (objD cls ns ds))(hk:ts[k]?=some (.lst .cl))(hf:ns[k]?=some f)(hnd:ns.Nodup)(hes:ds[k]?=some (.list es)) :
  ∃ ow',EnvOk K O' hid H0 σ H ρ ow'∧Same (del H (uni hid ow)) (del H (uni hid ow')):=by
 have hd':(ρ[i]?).join.bind fdsD=some ds:=by rw[hd];rfl
 obtain⟨a,D,dx,fs,w,d,bs,h1,h2,h3,h4,h5,h6,h7,h8,h9,put⟩:=E.putFldO hi hi2 hoth hd' hk hf hnd
 rw[hes] at h7
 obtain rfl:=Option.some.inj h7
 cases h8 with
 | @lst _ l vs _ as hl r n=>
  obtain⟨dl,rfl⟩:=r.dl
  have hfs:(fs.map (·.1))[k]?=some f∧(fs.map (·.2))[k]?=some (.ref l):=by
   obtain⟨A,EA,a',D2,dx2,fs2,as,hv,ho,hA,hH,hn,hfs,qq,_⟩:=E.recAt hi hd'
   rw[h1] at hv
   cases hv
   rw[h2] at hH
   cases hH
   refine⟨by rw[hfs];exact hf,?_⟩
   obtain⟨w2,d2,_,_,hw2,_,_,_⟩:=qq.put hk
   have:=fld_at (by rw[hfs];exact hf) (by rw[hfs];exact hnd) hw2
   rw[h4] at this
   rw[hw2,← Option.some.inj this]
  obtain⟨ow',e1,e2⟩:=put H [] (.ref l) (.list es) (fun b o _ _ z=>z) (fun _ z=>absurd z List.not_mem_nil) (by rw[set_same hfs.1 hfs.2];exact h2) fun ow' z1 z2 z3 z4=>.cl (.lst (SqL.of (by
   rw[del_out fun y=>?_]
   ·exact hl
   ·rcases y with y | y
    ·exact (E.isl l (h9 l List.mem_cons_self).1).2 y
    ·exact z4 l List.mem_cons_self List.not_mem_nil y)) (dl.mono (del_sub fun b z=>by
     rcases z with z | z
     ·exact .inl z
     ·rcases z1 b z with z | z
      ·exact .inr z
      ·cases z)))
  have ed:ds.set k (.list es)=ds:=by
   apply List.ext_getElem?
   intro j
   by_cases ej:j=k
   ·subst ej;rw[List.getElem?_set_self (List.getElem?_eq_some_iff.mp hes).1,hes]
   ·rw[List.getElem?_set_ne (Ne.symm ej)]
  have er:ρ.set i (some (objD cls ns (ds.set k (.list es))))=ρ:=by
   rw[ed]
   have hj:=join_some hd
   apply List.ext_getElem?
   intro j
   by_cases ej:j=i
   ·subst ej;rw[List.getElem?_set_self (List.getElem?_eq_some_iff.mp hj).1,hj]
   ·rw[List.getElem?_set_ne (Ne.symm ej)]
  rw[er] at e1
  exact⟨ow',e1,e2⟩
end
section
variable {X:Cx}{O O':Ow}{e:Expr}{i j k:Nat}{a:Addr}{x y f cls:Str}{ns:List Str}{ts:List Ty}{oa:Option Addr}{p p2 pos pos':Pos}{sts:List Stmt}{F:Rho->Option Out}
theorem EnvOk.objAt {K:PySem.W.Frag}{hid:Addr->Prop}{H0 H:Hp}{σ:St}{ρ:Rho}{ow:List Addr}(E:EnvOk K O hid H0 σ H ρ ow){ds:List PyData}(hi:O.s.lookup i=some (.rc oa cls ns ts))(hd:(ρ[i]?).join.bind fdsD=some ds):(ρ[i]?).join=some (objD cls ns ds):=by
 obtain⟨d,h1,h2⟩:=bind_some hd
 obtain⟨A,EA⟩:=E.own
 obtain⟨v,hv,D⟩:=EA.1 i _ d hi (join_some h1)
 generalize A i=Ai at D
 cases D with
 | non=>cases h2
 | rc ho hH hn hf q na=>
  rw[h1]
  obtain rfl:=Option.some.inj h2
  rfl
def looseF (k:Nat)(F:Rho->Option Out)(ρ:Rho):Option Out:=((ρ[0]?).join.bind fdsD).bind fun ds=>(ds[k]?.bind listD).bind fun _=>F ρ
theorem ss_looseR (h:PSR X O' a cls ns ts sts F){ts0:List Ty}(hO:O.s.lookup 0=some (.rc oa cls ns ts0):=by rfl)(hO2:O'.s.lookup 0=some (.rc oa cls ns (ts0.set k .cl)):=by rfl)(hoth:∀ j,j≠0->O'.s.lookup j=O.s.lookup j:=by intro j hj;cases j with | zero=>exact absurd rfl hj | succ j=>rfl)
  (hk:ts0[k]?=some (.lst .cl):=by rfl) (hf:ns[k]?=some f:=by rfl) (hnd:ns.Nodup:=by decide +kernel):PSR X O a cls ns ts sts (looseF k F):=h.imp fun D σ H zpat=>by
 obtain⟨hid,H0,ρ,ow,o,E,hF,d,s,rfl,q⟩:=zpat
 obtain⟨ds,g1,hF⟩:=bind_some hF
 obtain⟨es,g2,hF⟩:=bind_some hF
 obtain⟨dl,g3,g4⟩:=bind_some g2
 rw[listD_some g4] at g3
 obtain⟨ow',e1,_⟩:=E.loose hO hO2 hoth (E.objAt hO g1) hk hf hnd g3
 exact⟨hid,H0,ρ,ow',_,e1,hF,d,s,rfl,q⟩
def fldK (i k:Nat)(ρ:Rho):Option PyData:=((ρ[i]?).join.bind fdsD).bind fun ds=>ds[k]?
theorem v_fldO (hC:FldOk X.K cls f)(hx:PE X (.Name x p) (tVar i))(hO:O.s.lookup i=some (.rc oa cls ns ts):=by rfl)(hk:ts[k]?=some .cl:=by rfl)(hf:ns[k]?=some f:=by rfl)(hnd:ns.Nodup:=by decide +kernel)
  (hb:attributeBase (.Name x p) f X.env (eval (.Name x p) X.env)=eval (.Name x p) X.env:=by rfl):PV X O (.Attribute (.Name x p) f pos) (fldK i k):=(pe_fld hx hb).imp fun σ H Q zpat=>by
 obtain⟨hid,H0,ρ,ow,r,E,hF,q⟩:=zpat
 obtain⟨ds,g1,g2⟩:=bind_some hF
 obtain⟨b,D,dx,fs,w,d,bs,h1,h2,h3,h4,h5,h6,h7,h8,h9,_⟩:=E.putFld hO g1 hk hf hnd
 rw[g2] at h7
 obtain rfl:=Option.some.inj h7
 obtain⟨c1,c2⟩:=hC D h3
 exact⟨.ref b,h1,b,D,dx,fs,w,rfl,h2,c1,c2,h4,q w H (Same.refl _) h8.den⟩
def moveR (k j:Nat)(cls:Str)(ns:List Str)(ρ:Rho):Option Out:=((ρ[0]?).join.bind fdsD).bind fun ds=>((ρ[j]?).join.bind listD).map fun es=>.rt (.tuple [.none,objD cls ns (ds.set k (.list es))])
theorem ss_moveR (hC:FldOk X.K cls f)(hx:PE X (.Name x p) (tVar 0))(hy:PE X (.Name y p2) (tVar j)){ts0:List Ty}(hO:O.s.lookup 0=some (.rc (some a) cls ns ts0):=by rfl)(hj:O.s.lookup j=some (.lst .cl):=by rfl)(hj0:j≠0:=by decide)(hk:ts0[k]?=some .cl:=by rfl)(hts:ts0.set k (.lst .cl)=ts:=by rfl)(hf:ns[k]?=some f:=by rfl)(hnd:ns.Nodup:=by decide +kernel)(hlen:ns.length<1000:=by decide)
  (hs:swapsWith (.Name y p2) (some (.Attribute (.Name x p) f pos')) pos.line X.env=pure false:=by rfl):PSR X O a cls ns ts [.Assign [.Attribute (.Name x p) f pos'] (.Name y p2) pos] (moveR k j cls ns):=(pss_one (ps_fld hx hy hs)).imp fun D σ H zpat=>by
 obtain⟨hid,H0,ρ,ow,o,E,hF,d,s,e1,q⟩:=zpat
 obtain⟨ds,g1,hF⟩:=bind_some hF
 obtain⟨es,g2,hF⟩:=map_some hF
 rw[← hF] at e1
 injection e1 with e1
 injection e1 with e1
 injection e1 with e1 e3
 injection e3 with e3 _
 subst e1 e3
 obtain⟨dl,g3,g4⟩:=bind_some g2
 rw[listD_some g4] at g3
 obtain⟨A,EA,b,D',dx,fs,as,hv,ho,hA,hH,hn,hfs,qq,na,hl⟩:=E.recAt hO g1
 obtain rfl:=ho a rfl
 obtain⟨w,hw,Dw⟩:=EA.1 j _ _ hj (join_some g3)
 generalize hAj:A j=Aj at Dw
 cases Dw with
 | @lst _ l vs _ bs hl2 r n=>
  obtain⟨dl2,rfl⟩:=r.dl
  have hlj:l∈A j:=by rw[hAj];exact List.mem_cons_self
  have hlo:l∈ow:=EA.2.2 j l hlj
  have aow:a∈ow:=EA.2.2 0 a (by rw[hA];exact List.mem_cons_self)
  have asow:∀ p∈as,p∈ow:=fun p hp=>EA.2.2 0 p (by rw[hA];exact List.mem_cons_of_mem _ hp)
  have hla:l≠a:=fun z=>EA.2.1 j 0 l hj0 hlj (by rw[hA,z];exact List.mem_cons_self)
  have hlas:l∉as:=fun z=>EA.2.1 j 0 l hj0 hlj (by rw[hA];exact List.mem_cons_of_mem _ z)
  obtain⟨c1,c2⟩:=hC D' hn
  have hlf:fs.length=ns.length:=by rw[← hfs,List.length_map]
  refine⟨.ref l,hw,.ref a,hv,a,D',dx,fs,rfl,hH,c1,c2,by omega,?_⟩
  have hk1:(fs.map (·.1))[k]?=some f:=by rw[hfs];exact hf
  rw[putF_at hk1 (by rw[hfs];exact hnd)]
  obtain⟨w0,d0,b0,cs,hw0,hd0,D0,sp,dj,put⟩:=qq.put hk
  obtain rfl:=D0.cl0
  have ecs:∀ q,q∈as↔q∈cs:=fun q=>by
   rw[sp]
   exact⟨fun z=>z.elim (fun y=>absurd y List.not_mem_nil) id,.inr⟩
  have cln:∀ as2:List Addr,(∀ q∈as2,q∈ow)->Same (del H (uni hid ow)) (del (upd H a (.ins D' dx (fs.set k (f,.ref l)))) (uni hid as2)):=fun as2 h2 q o z=>by
   by_cases hq:uni hid ow q
   ·rw[del_in hq] at z;cases z
   ·rw[del_out hq] at z
    rw[del_out fun w=>hq (w.imp id (h2 q)),upd_ne (show q≠a from fun w=>hq (.inr (w▸aow)))]
    exact z
  have nas:∀ q∈as,q≠a:=fun q hq z=>na (z▸hq)
  obtain⟨as',m1,m2⟩:=put (upd H a (.ins D' dx (fs.set k (f,.ref l)))) (del (upd H a (.ins D' dx (fs.set k (f,.ref l)))) (uni hid (a::l::as))) (.lst .cl) (.ref l) (.list es) [l] (cln _ fun q hq=>by
   rcases List.mem_cons.mp hq with z | hq
   ·exact z▸aow
   ·rcases List.mem_cons.mp hq with z | hq
    ·exact z▸hlo
    ·exact asow q hq) (fun q hq o z=>by rw[upd_ne (nas q ((ecs q).mpr hq))];exact z) (.lst (by rw[upd_ne hla];exact hl2) (dl2.mono (cln _ fun q hq=>by
   rcases List.mem_cons.mp hq with z | hq
   ·exact z▸aow
   ·rcases List.mem_cons.mp hq with z | hq
    ·exact z▸hlo
    ·exact asow q hq)).os (by simp)) fun q hq z=>by
   rw[List.mem_singleton.mp hq] at z
   exact hlas ((ecs l).mpr z)
  have eu:uni hid (a::l::as)=uni hid (a::as'):=by
   funext q
   apply propext
   unfold uni
   simp only[List.mem_cons,m2,List.mem_nil_iff,or_false,← ecs]
  rw[eu,hts] at m1
  have m3:(fs.map (·.2)).set k (.ref l)=(fs.set k (f,.ref l)).map (·.2):=by rw[List.map_set]
  rw[m3] at m1
  refine (q .non (a::as') _ (fun b o z=>?_) (fun q hq=>?_) (.rc (fun b z=>nomatch z) upd_same hn (by rw[map1_set hk1];exact hfs) m1 fun z=>?_) .non).2 rfl σ
  ·have y:=E.base b o z
   by_cases hb:b∈ow
   ·rw[del_in hb] at y;cases y
   ·rw[del_out hb] at y
    rw[upd_ne (show b≠a from fun w=>hb (w▸aow))]
    exact y
  ·refine E.ow0 ?_
   rcases List.mem_cons.mp hq with z | hq
   ·exact z▸aow
   ·rcases (m2 q).mp hq with z | z
    ·exact List.mem_singleton.mp z▸hlo
    ·exact asow q ((ecs q).mpr z)
  ·rcases (m2 a).mp z with z | z
   ·exact hla (List.mem_singleton.mp z).symm
   ·exact na ((ecs a).mpr z)
end
end L2
namespace L2
variable [Reg]
inductive MethAt (K:PySem.W.Frag)(cls m:Str)(st:Stmt):Prop
 | mk (C f:Addr) (fd:FuncData) (a:PySem.W.nsIn K mainGlobals cls=some (some (.ref C))) (c1:PySem.W.plainGet K C Str.empty=true) (c2:PySem.W.hasDictIn K C=true) (c3:PySem.W.plainOver K C=true) (c4:PySem.W.findIn K (.ref C) "__setattr__"=some (some (.builtin "object.__setattr__")))
  (m1:PySem.W.findIn K (.ref C) m=some (some (.ref f))) (m2:PySem.W.isFn K (.ref f)=true) (m3:PySem.W.keepIn K (.ref f)=true) (F:Fun K m (cls++"."++m) st f fd):MethAt K cls m st
inductive ClsW (K:PySem.W.Frag)(cls:Str)(st:Stmt):Prop
 | mk (C f:Addr) (fd:FuncData) (a:PySem.W.nsIn K mainGlobals cls=some (some (.ref C))) (m1:PySem.W.makesIn K C=true) (m2:PySem.W.findIn K (.ref C) "__init__"=some (some (.ref f))) (m3:PySem.W.isFn K (.ref f)=true) (m4:PySem.W.keepIn K (.ref C)=true) (F:Fun K "__init__" (cls++".__init__") st f fd):ClsW K cls st
inductive FldW (K:PySem.W.Frag)(cls f:Str):Prop
 | mk (C:Addr) (a:PySem.W.nsIn K mainGlobals cls=some (some (.ref C))) (c1:PySem.W.plainGet K C Str.empty=true) (c2:PySem.W.hasDictIn K C=true) (c3:PySem.W.plainOver K C=true) (c4:PySem.W.findIn K (.ref C) "__setattr__"=some (some (.builtin "object.__setattr__"))) (n:PySem.W.findIn K (.ref C) f=some none):FldW K cls f
theorem FldW.ok {K:PySem.W.Frag}{cls f:Str}(h:FldW K cls f):FldOk K cls f:=fun D hD=>by
 cases h with
 | mk C a c1 c2 c3 c4 n=>
  rw[a] at hD
  cases hD
  exact⟨⟨c1,c2,c3,c4⟩,n⟩
section
variable {P:Program}{w:World}{K:PySem.W.Frag}{h:Heap}{mg:Str->Option Value}{base:Heap}{cls m:Str}{st:Stmt}{k:Nat}{ps ns:List Str}{ts:List Ty}{T:Ty}
theorem MethAt.okM {F:List PyData->Option PyData}(d:MethAt K cls m st)
  (hb:∀ (kV doc pm:Value) (an:Option Addr) (cdv ct:Value) (us:List Value),us.length=ps.length->bindArgs (PySem.W.fnOf m (cls++"."++m) (defArgs st) (defBody st) (defScope st) .none kV doc pm an cdv ct) ⟨us,[]⟩=pure (ps.zip us))
  (ok:∀ f fd,Fun K m (cls++"."++m) st f fd->FnOk P w K mg base CX0 k f fd ps (spR K T F)):DefM P w K mg base k cls m ps T F:=by
 cases d with
 | mk C f fd a c1 c2 c3 c4 m1 m2 m3 D=>exact⟨C,f,fd,⟨c1,c2,c3,c4⟩,⟨m1,m2,m3⟩,ok f fd D,a,D.binds hb⟩
theorem MethAt.okR {F:List PyData->Option (PyData×PyData)}(d:MethAt K cls m st)
  (hb:∀ (kV doc pm:Value) (an:Option Addr) (cdv ct:Value) (us:List Value),us.length=ps.length->bindArgs (PySem.W.fnOf m (cls++"."++m) (defArgs st) (defBody st) (defScope st) .none kV doc pm an cdv ct) ⟨us,[]⟩=pure (ps.zip us))
  (ok:∀ f fd,Fun K m (cls++"."++m) st f fd->FnOk P w K mg base CX0 k f fd ps (spRc K cls ns ts ns ts F)):DefRc P w K mg base k cls m ps ns ts F:=by
 cases d with
 | mk C f fd a c1 c2 c3 c4 m1 m2 m3 D=>exact⟨C,f,fd,⟨c1,c2,c3,c4⟩,⟨m1,m2,m3⟩,ok f fd D,a,D.binds hb⟩
theorem ClsW.ok {F:List PyData->Option (PyData×PyData)}(d:ClsW K cls st)(X:K.In h)(G:h.Ns mainGlobals mg)
  (hb:∀ (kV doc pm:Value) (an:Option Addr) (cdv ct:Value) (us:List Value),us.length=ps.length->bindArgs (PySem.W.fnOf "__init__" (cls++".__init__") (defArgs st) (defBody st) (defScope st) .none kV doc pm an cdv ct) ⟨us,[]⟩=pure (ps.zip us))
  (ok:∀ f fd,Fun K "__init__" (cls++".__init__") st f fd->FnOk P w K mg base CX0 k f fd ps (spRc K cls [] [] ns ts F)):DefW P w K mg base k cls ps ns ts F:=by
 cases d with
 | mk C f fd a m1 m2 m3 m4 D=>exact⟨C,f,fd,⟨m1,m2,m3,m4⟩,ok f fd D,PySem.W.mg_of X G a,a,D.binds hb⟩
end
section
variable {X:Cx}{O:Ow}{e tg:Expr}{pos:Pos}{fx:Rho->Option (PyData×Rho)}{S:PyData->Rho->Option Rho}
end
end L2
namespace L2
variable [Reg]
section
variable {X:Cx}{O:Ow}
theorem Inv.swap {pins pl pl':List (Addr×Obj)}{σ:St}{H:Hp}{s:Shared}{a:Addr}{h':Heap}{t':Nat}(I:Inv X (pins++pl) σ H s)(f:FpOk X pins H a)(k:∀ b o,b≠a->s.heap.get? b=some o->h'.get? b=some o)
  (hp:∀ p∈pl',(p∈pl∧p.1≠a)∨(p.1=a∧h'.get? a=some p.2∧∀ v,p.2.data≠.cell v)):Inv X (pins++pl') σ H { s with heap:=h',toks:=t' }:=by
 obtain⟨f0,f1,f2,f3,f4,f5⟩:=id (f)
 have I1:Inv X pins σ H { s with heap:=h',toks:=t' }:=I.unpinned.turned (t':=t') k f0 f1 f3 f4 f5
 refine I1.pins_of fun p hm=>?_
 rcases List.mem_append.mp hm with hm | hm
 ·exact I1.pin p (List.mem_append_right _ hm)
 ·rcases hp p hm with ⟨h1,h2⟩ | ⟨h1,h2,h3⟩
  ·obtain⟨g1,g2⟩:=I.pin p (List.mem_append_right _ (List.mem_append_right _ h1))
   exact⟨k _ _ h2 g1,g2⟩
  ·exact⟨by rw[h1];exact h2,by rw[h1];exact f0,by rw[h1];exact f1,by rw[h1];exact f2,h3⟩
theorem seq_nocell {c:String}{xs:Array Value}{n:Nat}:∀ v,(seqObj c xs n).data≠.cell v:=fun v z=>by cases z
def minI (n:Int)(ns:List Int):Int:=ns.foldl (fun a b=>if b<a then b else a) n
def maxI (n:Int)(ns:List Int):Int:=ns.foldl (fun a b=>if b>a then b else a) n
theorem minI_is:∀ (ns:List Int) (n:Int),minI n ns∈n::ns∧∀ a∈n::ns,minI n ns≤a
 | [],n=>⟨by simp[minI],fun a h=>by simp at h;subst h;exact Int.le_refl _⟩
 | m::r,n=>by
  by_cases hmn:m<n
  ·have e:minI n (m::r)=minI m r:=by unfold minI;rw[List.foldl_cons,if_pos hmn]
   rw[e]
   obtain⟨h1,h2⟩:=minI_is r m
   have h3:=h2 _ List.mem_cons_self
   refine⟨List.mem_cons_of_mem _ h1,fun a ha=>?_⟩
   rcases List.mem_cons.mp ha with rfl | ha
   ·omega
   ·exact h2 a ha
  ·have e:minI n (m::r)=minI n r:=by unfold minI;rw[List.foldl_cons,if_neg hmn]
   rw[e]
   obtain⟨h1,h2⟩:=minI_is r n
   have h3:=h2 _ List.mem_cons_self
   refine⟨?_,fun a ha=>?_⟩
   ·rcases List.mem_cons.mp h1 with h1 | h1
    ·rw[h1];exact List.mem_cons_self
    ·exact List.mem_cons_of_mem _ (List.mem_cons_of_mem _ h1)
   ·rcases List.mem_cons.mp ha with rfl | ha
    ·exact h3
    ·rcases List.mem_cons.mp ha with rfl | ha
     ·omega
     ·exact h2 a (List.mem_cons_of_mem _ ha)
theorem maxI_is:∀ (ns:List Int) (n:Int),maxI n ns∈n::ns∧∀ a∈n::ns,a≤maxI n ns
 | [],n=>⟨by simp[maxI],fun a h=>by simp at h;subst h;exact Int.le_refl _⟩
 | m::r,n=>by
  by_cases hmn:m>n
  ·have e:maxI n (m::r)=maxI m r:=by unfold maxI;rw[List.foldl_cons,if_pos hmn]
   rw[e]
   obtain⟨h1,h2⟩:=maxI_is r m
   have h3:=h2 _ List.mem_cons_self
   refine⟨List.mem_cons_of_mem _ h1,fun a ha=>?_⟩
   rcases List.mem_cons.mp ha with rfl | ha
   ·omega
   ·exact h2 a ha
  ·have e:maxI n (m::r)=maxI n r:=by unfold maxI;rw[List.foldl_cons,if_neg hmn]
   rw[e]
   obtain⟨h1,h2⟩:=maxI_is r n
   have h3:=h2 _ List.mem_cons_self
   refine⟨?_,fun a ha=>?_⟩
   ·rcases List.mem_cons.mp h1 with h1 | h1
    ·rw[h1];exact List.mem_cons_self
    ·exact List.mem_cons_of_mem _ (List.mem_cons_of_mem _ h1)
   ·rcases List.mem_cons.mp ha with rfl | ha
    ·exact h3
    ·rcases List.mem_cons.mp ha with rfl | ha
     ·omega
     ·exact h2 a (List.mem_cons_of_mem _ ha)
def minLD:PyData->Option PyData
 | .list ds=>(intsO ds).bind fun ns=>match ns with | []=>none | n::r=>some (.int (minI n r))
 | _=>none
section
variable {a:Expr}{fa:Rho->Option PyData}{pos p:Pos}
theorem call_minL (hc:X.calm=true):CallR X (.builtin "min") (fun xs H Q=>∃ (a:Addr) (n:Int) (ns:List Int),xs=[.ref a]∧SqL X.K H a ((n::ns).map V.int)∧Q (.int (minI n ns)) H):=by
 intro pins s σ H xs us Q I r h
 revert h
 refine fun zqq=>?_;obtain⟨q,n,ns,zq3,hq,k⟩:=zqq
 subst zq3
 obtain⟨u,zq1,rx⟩:=vals1 r
 subst zq1
 cases rx
 obtain⟨its,r',pl,hz⟩:=I.list hq
 have hI:=intsAre_of r'
 obtain⟨zs,e⟩:=hI.allInts.items
 have hns:n::ns=zs.toList.map (·.1):=by
  rw[← hI.numsOf,← nums_intItems,← e]
 have hsz:0<zs.size:=by
  have h3:(n::ns).length=(zs.toList.map (·.1)).length:=by rw[hns]
  rw[List.length_map] at h3;simp at h3;omega
 have hl:=pl.isList
 rw[e] at hl
 refine min_intList (I.ok.hd hc) hl hsz fun v h' tk hv hk=>?_
 obtain⟨t,zq1⟩:=intItems_at hv
 subst zq1
 obtain⟨h1,h2⟩:=argBest_lt (numAt zs) (zs.size - 1)
 obtain⟨g1,g2⟩:=minI_is ns n
 have a1:numAt zs (argBest (fun i j=>decide (numAt zs i<numAt zs j)) (zs.size - 1))∈n::ns:=by rw[hns,numAt_eq];exact getD_mem (by rw[List.length_map,Array.length_toList];omega)
 have a2:=g2 _ a1
 rw[hns] at g1
 obtain⟨j,hj,ej⟩:=mem_getD g1
 rw[List.length_map,Array.length_toList] at hj
 rw[← numAt_eq] at ej
 have a3:=h2 j (by omega)
 have a4:numAt zs (argBest (fun i j=>decide (numAt zs i<numAt zs j)) (zs.size - 1))=minI n ns:=by rw[← ej] at a2 ⊢;omega
 rw[a4]
 exact⟨.int _,H,I.kept (t':=tk) hk,⟨t,rfl⟩,k⟩
theorem v_minL (hc:X.calm=true)(hg:Gl X "min")(hm:X.mg "min"=none)(ha:PR X O a fa)(he:starEach [a] X.env=(false,eval a X.env)::starEach [] X.env:=by rfl)(hpl:(backTo pos (starEach [] X.env)).any (·.1)=false:=by rfl)
  (hv:bootBuiltins "min"=some (.builtin "min"):=by decide +kernel):PV X O (.Call (.Name "min" p) [a] [] pos) (fun ρ=>(fa ρ).bind minLD):=
 (pe_callB (call_minL hc) hg hm hv (pa_cons ha pa_nil he) (by decide) (by decide) he hpl).imp fun σ H Q zpat=>by
  obtain⟨hid,H0,ρ,ow,r,E,hf,k⟩:=zpat
  obtain⟨d,h1,h2⟩:=bind_some hf
  refine⟨hid,H0,ρ,ow,d,E,h1,fun x H1 s1 D1=>?_⟩
  unfold minLD at h2
  split at h2
  case h_2=>cases h2
  obtain⟨ns,h3,h4⟩:=bind_some h2
  cases ns with
  | nil=>exact L2.no_ns h4
  | cons n ns=>
   obtain rfl:=Option.some.inj h4
   have e:=intsO_some h3
   subst e
   obtain⟨q,vs,rfl,q1,r1⟩:=den_lst D1
   have e2:=r1.isInts
   subst e2
   exact ⟨q,n,ns,rfl,(del_same _ _).seq q1,k _ H1 s1 (.int _)⟩
end
end
end L2
namespace L2
variable [Reg]
section
variable {X:Cx}{O:Ow}{e:Expr}{pos:Pos}
def extD (i:Nat)(ρ:Rho)(zs:List PyData):Option Out:=((ρ[i]?).join.bind listD).bind fun ds=>if decide (ds.length+zs.length<1000)=true then some (.nx (ρ.set i (some (.list (ds++zs))))) else none
theorem s_extend {i:Nat}{x:Str}{p apos cpos:Pos}{f:Rho->Option (List PyData)}(hx:PE X (.Name x p) (tVar i))(he:PFc X O e f)(hO:O.s.lookup i=some (.lst .cl):=by rfl)
  (hbase:attributeBase (.Name x p) "extend" X.env (eval (.Name x p) X.env)=eval (.Name x p) X.env:=by rfl)
  (hfew:((backTo cpos (starEach [e] X.env)).all (fun x=>!x.1)&&(backToKw cpos (keywordEach [] X.env)).all (fun x=>x.1.isSome)&&decide ([e].length+([]:List Keyword).length+(if ([]:List Keyword).isEmpty then 0 else 1)<30))=true:=by rfl)
  (hline:(apos.endLine==cpos.line)=true:=by rfl) (hst:starEach [e] X.env=(false,eval e X.env)::starEach [] X.env:=by rfl) (hplain:(backTo cpos (starEach [] X.env)).any (·.1)=false:=by rfl)
  (hs:swapsWith (.Call (.Attribute (.Name x p) "extend" apos) [e] [] cpos) none pos.line X.env=pure false:=by rfl) :
  PSv X O (.Expr (.Call (.Attribute (.Name x p) "extend" apos) [e] [] cpos) pos) (fun ρ=>(f ρ).bind (extD i ρ)):=
 (ps_expr (pe_bm PySem.F.plainAttrs_list PySem.F.slot_list_extend PySem.F.type_list_extend mt_extend (at_name hx hO) (pa_cons he pa_nil hst) hbase hfew hline hst hplain) hs).imp fun D σ H zpat=>by
  obtain⟨hid,H0,ρ,ow,o,E,hf,k⟩:=zpat
  obtain⟨zs,g1,g2⟩:=bind_some hf
  obtain⟨ds,g3,g4⟩:=bind_some g2
  obtain⟨dl,g5,g6⟩:=bind_some g3
  rw[listD_some g6] at g5
  split at g4
  case isFalse=>cases g4
  rename_i hlt
  obtain rfl:=Option.some.inj g4
  refine ⟨hid,H0,ρ,ow,.list ds,[],ds,E,join_some g5,rfl,rfl,rfl,(fun H1 l vs s1 hH hD hl hE=>⟨.inl ⟨rfl,vs,SqL.of hH⟩,hid,H0,ρ,ow,zs,E.mono s1,g1,fun b ws H2 s2 nb hb Dz=>?_⟩)⟩
  have hz:1000<sizeLine:=by decide
  have hlt':=of_decide_eq_true hlt
  refine ⟨l,b,vs,ws,rfl,rfl,s2 _ _ hH,hb,(by rw[hD.length,Dz.length];omega),k _ _ ow ?_ (hE H2 s2 _ _ ((hD.mono (del_mono s2 _)).append (Dz.mono (del_sub (uni_mono fun p hp=>List.mem_cons_of_mem _ hp)))))⟩
  rw[del_upd (uni_in hl)]
  exact (del_mono s1 _).trans (del_mono s2 _)
end
end L2
namespace L2
variable [Reg]
section
variable {X:Cx}{O:Ow}
def maxOr (i:Int):List Int->Int
 | []=>i
 | n::r=>maxI n r
theorem argsMaxD (a d:Value):argsOk "max" ⟨[a],[(Str.ofString "default",d)]⟩:=by unfold argsOk;kernel_rfl
theorem maxI_cons (b n:Int)(ns:List Int):maxI b (n::ns)=maxI (if n>b then n else b) ns:=rfl
theorem maxD_loop {S it l:Addr}{pins:List (Addr×Obj)}{σ:St}{H:Hp}{xs:List V}{R:Result->Shared->Prop}{dv:Value}
  (hh:X.A.handled=none) (hSi:S≠it) (fS:∀ H,H S=none->FpOk X pins H S) (fI:∀ H,H it=none->FpOk X pins H it) (hl:SqL X.K H l xs) :
  ∀ (ns:List Int) (j:Nat) (s:Shared) (b:Int) (tb:Tok) (c:Nat) (oI:Obj),Inv X (pins++[(S,seqObj "list" #[.int b tb,.int b tb] c),(it,oI)]) σ H s->s.heap.IsListIter it l j->xs.drop j=ns.map V.int ->
   (∀ t s',Inv X pins σ H s'->R (.ok (.ret (.int (maxI b ns) t))) s')->codeAny (model X.prog X.w) X.A (.builtin "max.loop" ⟨[.ref it,.none,.ref S],[("default",dv)]⟩) R s:=by
 have hname:(toString "max"++toString ".loop":String)="max.loop":=by decide
 intro ns
 induction ns with
 | nil=>
  intro j s b tb c oI I hit hx hR
  have pS:=I.pin (S,seqObj "list" #[.int b tb,.int b tb] c) (by simp)
  have pI:=I.pin (it,oI) (by simp)
  obtain⟨its,rs,pl,hz⟩:=I.list hl
  have hlen:=rs.length
  have hdl:=congrArg List.length hx
  rw[List.length_drop] at hdl
  simp only[List.map_nil,List.length_nil] at hdl
  refine codeAny_builtin PySem.F.entry_max_loop ?_
  rw[Around.under_plainId PySem.F.plain_max_loop _]
  show wpAny _ X.A.in1 (seqItems? (.ref S) >>= _) _ _ _
  refine wpAny_bind (wpAny_seqItems pS.1 rfl ?_)
  show wpAny _ X.A.in1 (tryCatch (pyNext (.ref it)) _ >>= _) _ _ _
  refine wpAny_bind (wpAny_tryCatch (wpAny_pyNext_list_end (A:=X.A.in1) hh hit pl.isList (by simp at hdl ⊢;omega) fun h' eb=>?_))
  have I1:Inv X (pins++[(S,seqObj "list" #[.int b tb,.int b tb] c)]) σ H { s with heap:=h' }:=I.swap (t':=s.toks) (fI H pI.2.1) (fun b o hb e=>eb b o hb e) fun p hp=>by
   obtain rfl:p=_:=List.mem_singleton.mp hp
   exact .inl ⟨by simp,hSi⟩
  have pS1:=I1.pin (S,seqObj "list" #[.int b tb,.int b tb] c) (by simp)
  have s1:=Heap.SameBut.update h' S (Obj.mapSeq fun _=>(#[]:Array Value))
  show wpAny _ X.A.in1 (updateSeq S (fun _=>#[]) >>= _) _ _ _
  refine wpAny_bind ?_
  refine wpAny_updateSeq pS1.1 rfl (wpAny_bind (wpAny_letGo (wpAny_pure ?_)))
  have I2:=I1.swap (pl':=[]) (t':=s.toks) (h':=h'.update S (Obj.mapSeq fun _=>(#[]:Array Value))) (fS H pS.2.1) (fun b o hb e=>(s1.2 b hb).trans e) fun p hp=>by cases hp
  rw[List.append_nil] at I2
  exact hR tb _ I2
 | cons n ns ih=>
  intro j s b tb c oI I hit hx hR
  have pS:=I.pin (S,seqObj "list" #[.int b tb,.int b tb] c) (by simp)
  have pI:=I.pin (it,oI) (by simp)
  obtain⟨its,rs,pl,hz⟩:=I.list hl
  rw[List.map_cons] at hx
  have hy:xs[j]?=some (.int n):=by
   have:=congrArg (fun l:List V=>l[0]?) hx
   simpa using this
  have hys:xs.drop (j+1)=ns.map V.int:=by
   have:=congrArg List.tail hx
   simpa using this
  obtain⟨u,hu,ru⟩:=rs.get hy
  obtain⟨t2,rfl⟩:∃ t2,u=.int n t2:=ru
  refine codeAny_builtin PySem.F.entry_max_loop ?_
  rw[Around.under_plainId PySem.F.plain_max_loop _]
  show wpAny _ X.A.in1 (seqItems? (.ref S) >>= _) _ _ _
  refine wpAny_bind (wpAny_seqItems pS.1 rfl ?_)
  show wpAny _ X.A.in1 (tryCatch (pyNext (.ref it)) _ >>= _) _ _ _
  refine wpAny_bind (wpAny_tryCatch (wpAny_pyNext_list_item hit pl.isList (x:=.int n t2) (by simpa using hu) fun h' st' sb=>?_))
  obtain⟨oI',e1,e2,e3⟩:=id st'
  have I2:Inv X (pins++[(S,seqObj "list" #[.int b tb,.int b tb] c),(it,oI')]) σ H { s with heap:=h' }:=I.swap (t':=s.toks) (fI H pI.2.1) (fun b o hb e=>(sb.2 b hb).trans e) fun p hp=>by
   rcases List.mem_cons.mp hp with rfl | hp
   ·exact .inl ⟨by simp,hSi⟩
   ·obtain rfl:p=_:=List.mem_singleton.mp hp
    exact .inr ⟨rfl,e1,fun v z=>by rw[e3] at z;cases z⟩
  have pS2:=I2.pin (S,seqObj "list" #[.int b tb,.int b tb] c) (by simp)
  have pI2:=I2.pin (it,oI') (by simp)
  refine wpAny_bind (wpAny_pure ?_)
  show wpAny _ X.A.in1 (tryCatch (holding [.int n t2,.int n t2] (richCompare .Gt (.int n t2) (.int b tb) >>= _)) _ >>= _) _ _ _
  refine wpAny_bind (wpAny_tryCatch (wpAny_holding (wpAny_bind (CmpOf.ints_gt (prog:=X.prog) (w:=X.w) (A:=X.A.in1) (P:=fun i v=>∃ t,v=.int (if i=0 then n else b) t) (fun i=>if i=0 then n else b) (fun i v h=>h) 0 1 _ _ _ _ _ ⟨t2,rfl⟩ ⟨tb,rfl⟩ ?_))))
  refine wpAny_bind (wpAny_holding (wpAny_truthy_bool ?_))
  refine wpAny_bind (wpAny_letGo (wpAny_pure ?_))
  by_cases hb':n>b
  ·have s1:=Heap.SameBut.update h' S (Obj.mapSeq fun _=>#[.int n t2,.int n t2])
   obtain⟨c2,hc2⟩:∃ c2,(h'.update S (Obj.mapSeq fun _=>#[.int n t2,.int n t2])).get? S=some (seqObj "list" #[.int n t2,.int n t2] c2):=⟨_,get?_update_seq pS2.1 fun _=>#[.int n t2,.int n t2]⟩
   simp only[hb',decide_true,if_true,if_neg (show ¬ (1=0) by decide)]
   refine wpAny_bind ?_
   refine wpAny_updateSeq pS2.1 rfl (wpAny_bind (wpAny_letGo ?_))
   rw[hname]
   have I3:Inv X (pins++[(S,seqObj "list" #[.int n t2,.int n t2] c2),(it,oI')]) σ H { s with heap:=h'.update S (Obj.mapSeq fun _=>#[.int n t2,.int n t2]) }:=I2.swap (t':=s.toks) (fS H pS2.2.1) (fun b o hb e=>(s1.2 b hb).trans e) fun p hp=>by
    rcases List.mem_cons.mp hp with rfl | hp
    ·exact .inr ⟨rfl,hc2,seq_nocell⟩
    ·obtain rfl:p=_:=List.mem_singleton.mp hp
     exact .inl ⟨by simp,hSi.symm⟩
   exact wpAny_pure ⟨plainId_quiet PySem.F.plain_max_loop _,ih (j+1) _ n t2 c2 oI' I3 ⟨oI',(s1.2 it hSi.symm).trans pI2.1,e2,e3⟩ hys fun t s' J=>by
    have:=hR t s' J
    rw[maxI_cons,if_pos hb'] at this
    exact this⟩
  ·simp only[hb',decide_false,Bool.false_eq_true,if_false,if_true,if_neg (show ¬ (1=0) by decide)]
   refine wpAny_bind (wpAny_letGo ?_)
   rw[hname]
   exact wpAny_pure ⟨plainId_quiet PySem.F.plain_max_loop _,ih (j+1) _ b tb c oI' I2 ⟨oI',pI2.1,e2,e3⟩ hys fun t s' J=>by
    have:=hR t s' J
    rw[maxI_cons,if_neg hb'] at this
    exact this⟩
theorem call_maxDf {l:Addr}{pins:List (Addr×Obj)}{σ:St}{H:Hp}{s:Shared}{ns:List Int}{i:Int}{ti:Tok}{Q:VK}{E':Value->Shared->Prop}
  (hh:X.A.handled=none) (I:Inv X pins σ H s) (hl:SqL X.K H l (ns.map V.int)) (q:Q (.int (maxOr i ns)) H) :
  wpAny (model X.prog X.w) X.A (call (.builtin "max") [.ref l] [(Str.ofString "default",.int i ti)]) (EP X pins σ Q) E' s:=by
 have hname:(toString "max"++toString ".loop":String)="max.loop":=by decide
 obtain⟨its,rs,pl,hz⟩:=I.list hl
 refine kmk_tree PySem.F.kind_max PySem.F.plain_max PySem.F.entry_max (argsMaxD _ _) ?_
 show wpAny _ X.A.in1 (Builtin.Builtins.bindParams "max" ["key","default"] 0 ⟨[],[(Str.ofString "default",.int i ti)]⟩ >>= _) _ _ s
 refine wpAny_bind (wpAny_of_eq (show Builtin.Builtins.bindParams "max" ["key","default"] 0 ⟨[],[(Str.ofString "default",.int i ti)]⟩=pure [none,some (.int i ti)] from rfl) ?_)
 refine wpAny_bind (wpAny_pure ?_)
 refine wpAny_bind (wpAny_pyIter_list pl.isList ?_)
 refine wpAny_bind (wpAny_newList ?_ (Nat.zero_le _))
 rw[hname]
 generalize hI1:s.heap.push { cls:=.type "list_iterator",data:=.fields #[.ref l,.int 0 0] }=h1
 have z1:h1.objs.size=s.heap.objs.size+1:=by rw[← hI1];exact size_push' ..
 have k1:∀ b o,s.heap.get? b=some o->h1.get? b=some o:=fun b o e=>by rw[← hI1];exact Heap.get?_push_of_some _ e
 have g1:h1.get? s.heap.objs.size=some { cls:=.type "list_iterator",data:=.fields #[.ref l,.int 0 0] }:=by rw[← hI1];exact Heap.get?_push_size _ rfl
 have hSi:h1.objs.size≠s.heap.objs.size:=by omega
 have fI:∀ H',H' s.heap.objs.size=none->FpOk X pins H' s.heap.objs.size:=fun H' hn=>I.fpOk (Nat.le_refl _) hn
 have fS:∀ H',H' h1.objs.size=none->FpOk X pins H' h1.objs.size:=fun H' hn=>I.fpOk (by omega) hn
 have nI:H s.heap.objs.size=none:=I.hok.fresh (Nat.le_refl _)
 have nS:H h1.objs.size=none:=I.hok.fresh (by omega)
 have gS:(h1.push { cls:=.type "list",data:=.seq ([]:List Value).toArray }).get? h1.objs.size=some (seqObj "list" #[] 0):=Heap.get?_push_size _ rfl
 have gI:(h1.push { cls:=.type "list",data:=.seq ([]:List Value).toArray }).get? s.heap.objs.size=some { cls:=.type "list_iterator",data:=.fields #[.ref l,.int 0 0] }:=Heap.get?_push_of_some _ g1
 have I0:Inv X (pins++[(h1.objs.size,seqObj "list" #[] 0),(s.heap.objs.size,{ cls:=.type "list_iterator",data:=.fields #[.ref l,.int 0 0] })]) σ H { s with heap:=h1.push { cls:=.type "list",data:=.seq ([]:List Value).toArray } }:=by
  have J:Inv X pins σ H { s with heap:=h1.push { cls:=.type "list",data:=.seq ([]:List Value).toArray } }:=I.kept (t':=s.toks) fun b o e=>Heap.get?_push_of_some _ (k1 b o e)
  refine J.pins_of fun p hp=>?_
  rcases List.mem_append.mp hp with hp | hp
  ·exact J.pin p (List.mem_append_right _ hp)
  ·rcases List.mem_cons.mp hp with rfl | hp
   ·obtain⟨f0,f1,f2,_⟩:=fS H nS
    exact⟨gS,f0,f1,f2,seq_nocell⟩
   ·obtain rfl:p=_:=List.mem_singleton.mp hp
    obtain⟨f0,f1,f2,_⟩:=fI H nI
    exact⟨gI,f0,f1,f2,fun v z=>by cases z⟩
 refine wpAny_pure ⟨plainId_quiet PySem.F.plain_max_loop _,?_⟩
 obtain⟨its0,rs0,pl0,hz0⟩:=I0.list hl
 have hit:(h1.push { cls:=.type "list",data:=.seq ([]:List Value).toArray }).IsListIter s.heap.objs.size l 0:=⟨_,gI,rfl,rfl⟩
 refine codeAny_builtin PySem.F.entry_max_loop ?_
 rw[Around.under_plainId PySem.F.plain_max_loop _]
 show wpAny _ X.A.in1 (seqItems? (.ref _) >>= _) _ _ _
 refine wpAny_bind (wpAny_seqItems gS rfl ?_)
 show wpAny _ X.A.in1 (tryCatch (pyNext (.ref s.heap.objs.size)) _ >>= _) _ _ _
 cases ns with
 | nil=>
  refine wpAny_bind (wpAny_tryCatch (wpAny_pyNext_list_end (A:=X.A.in1) hh hit pl0.isList (by cases rs0;rfl) fun h' eb=>?_))
  have I1:=I0.swap (pl':=[]) (t':=s.toks) (fI H nI) (fun b o hb e=>eb b o hb e) fun p hp=>by cases hp
  rw[List.append_nil] at I1
  refine wpAny_bind (wpAny_rule ?_)
  exact wpAny_pure ⟨.int i,H,I1,⟨ti,rfl⟩,q⟩
 | cons n ns=>
  obtain⟨u0,hu0,ru0⟩:=rs0.get (show ((n::ns).map V.int)[0]?=some (.int n) from rfl)
  obtain⟨t2,rfl⟩:∃ t2,u0=.int n t2:=ru0
  refine wpAny_bind (wpAny_tryCatch (wpAny_pyNext_list_item hit pl0.isList (x:=.int n t2) (by simpa using hu0) fun h' st' sb=>?_))
  obtain⟨oI',e1,e2,e3⟩:=id st'
  have I1:Inv X (pins++[(h1.objs.size,seqObj "list" #[] 0),(s.heap.objs.size,oI')]) σ H { s with heap:=h' }:=I0.swap (t':=s.toks) (fI H nI) (fun b o hb e=>(sb.2 b hb).trans e) fun p hp=>by
   rcases List.mem_cons.mp hp with rfl | hp
   ·exact .inl ⟨by simp,hSi⟩
   ·obtain rfl:p=_:=List.mem_singleton.mp hp
    exact .inr ⟨rfl,e1,fun v z=>by rw[e3] at z;cases z⟩
  refine wpAny_bind (wpAny_pure ?_)
  have pS2:=I1.pin (h1.objs.size,seqObj "list" #[] 0) (by simp)
  have pI2:=I1.pin (s.heap.objs.size,oI') (by simp)
  have s1:=Heap.SameBut.update h' h1.objs.size (Obj.mapSeq fun _=>#[.int n t2,.int n t2])
  obtain⟨c2,hc2⟩:∃ c2,(h'.update h1.objs.size (Obj.mapSeq fun _=>#[.int n t2,.int n t2])).get? h1.objs.size=some (seqObj "list" #[.int n t2,.int n t2] c2):=⟨_,get?_update_seq pS2.1 fun _=>#[.int n t2,.int n t2]⟩
  show wpAny _ X.A.in1 (updateSeq h1.objs.size (fun _=>#[.int n t2,.int n t2]) >>= _) _ _ _
  refine wpAny_bind ?_
  refine wpAny_updateSeq pS2.1 rfl ?_
  rw[hname]
  have I3:Inv X (pins++[(h1.objs.size,seqObj "list" #[.int n t2,.int n t2] c2),(s.heap.objs.size,oI')]) σ H { s with heap:=h'.update h1.objs.size (Obj.mapSeq fun _=>#[.int n t2,.int n t2]) }:=I1.swap (t':=s.toks) (fS H pS2.2.1) (fun b o hb e=>(s1.2 b hb).trans e) fun p hp=>by
   rcases List.mem_cons.mp hp with rfl | hp
   ·exact .inr ⟨rfl,hc2,seq_nocell⟩
   ·obtain rfl:p=_:=List.mem_singleton.mp hp
    exact .inl ⟨by simp,hSi.symm⟩
  exact wpAny_pure ⟨plainId_quiet PySem.F.plain_max_loop _,maxD_loop hh hSi fS fI hl ns 1 _ n t2 c2 oI' I3 ⟨oI',(s1.2 _ hSi.symm).trans pI2.1,e2,e3⟩ rfl fun t s' J=>⟨.int _,H,J,⟨t,rfl⟩,q⟩⟩
def maxDf (i:Int):PyData->Option PyData
 | .list ds=>(intsO ds).map fun ns=>.int (maxOr i ns)
 | _=>none
theorem v_maxDf {p pos kp cpos:Pos}{cj:Nat}{i:Int}{a:Expr}{fa:Rho->Option PyData}(hh:X.A.handled=none)(hg:Gl X "max")(hm:X.mg "max"=none)(ha:PR X O a fa)(hv:bootBuiltins "max"=some (.builtin "max"):=by decide +kernel)
  (he:starEach [a] X.env=(false,eval a X.env)::starEach [] X.env:=by rfl)
  (he':backTo pos (starEach [a] X.env)=(false,eval a X.env)::backTo pos (starEach [] X.env):=by rfl)
  (hpl:(backTo pos (starEach [a] X.env)).any (·.1)=false:=by rfl)
  (hkl:(backToKw pos (keywordEach [⟨some "default",.Constant (.int i) cj cpos,kp⟩] X.env)).all (·.1.isSome)=true:=by rfl)
  (hkn:(backToKw pos (keywordEach [⟨some "default",.Constant (.int i) cj cpos,kp⟩] X.env)).any (·.1.isNone)=false:=by rfl) :
  PV X O (.Call (.Name "max" p) [a] [⟨some "default",.Constant (.int i) cj cpos,kp⟩] pos) (fun ρ=>(fa ρ).bind (maxDf i)):=by
 intro pins s σ H Q I ⟨hid,H0,ρ,ow,r,E,hf,q⟩
 obtain⟨d,h1,h2⟩:=bind_some hf
 refine wpAny_Call_Name_kw (ld_blt I hg hm hv ?_ (by decide) (by decide))
 refine callWith_kw ?_ he' hpl hkl hkn
 have A1:=(pa_cons ha pa_nil he) pos pins s σ H (fun vs H1=>∃ v,vs=[v]∧Same H H1∧Den X.K (del H1 hid) v d) I ⟨hid,H0,ρ,ow,d,E,h1,fun v H1 s1 D1=>⟨v,rfl,s1,D1⟩⟩
 refine thn A1 fun us s1 zpat=>?_
 obtain⟨vs,H1,I1,rr,v,e,sm1,D1⟩:=zpat
 subst e
 obtain⟨u,zq1,ru⟩:=vals1 rr
 subst zq1
 refine kws_cons (thn ((pe_int (i:=i) (j:=cj) (pos:=cpos)) pins s1 σ H1 (fun v H2=>v=.int i∧H2=H1) I1 ⟨rfl,rfl⟩) fun uz s2 ⟨vz,H2,I2,rz,e,eH⟩=>kws_nil ?_)
 subst e
 subst eH
 obtain⟨ti,rfl⟩:∃ ti,uz=.int i ti:=rz
 cases d with
 | list ds=>
  obtain⟨ns,h3,rfl⟩:=map_some h2
  have e:=intsO_some h3
  subst e
  obtain⟨l,xs,rfl,q1,r1⟩:=den_lst D1
  obtain rfl:u=Value.ref l:=ru
  have e2:=r1.isInts
  subst e2
  exact call_maxDf hh I2 ((del_same _ _).seq q1) (q _ _ sm1 (.int _))
 | _=>exact L2.no_ns h2
end
end L2
namespace L2
section
variable {P:Program}{w:World}{A:Around}{E:Value->Shared->Prop}{h:Heap}{g:Array GenState}{d:Drawn}{t:Nat}{os:OsState}
variable {C N:Addr}{nm q:Str}{bs bm bmB:List Value}{hdct:Bool}{sn:List Str}{sub:List Value}{ab:Bool}{col:Option Bool}{dd:Option Addr}{k0 k1 k2 k3 k5:Option Value}{B Bn newId nid initId inN:String}{bmN:List Value}
end
section
variable {P:Program}{w:World}{A:Around}{E:Value->Shared->Prop}{s:Shared}
variable {nm q:Str}{C N e:Addr}{bs bm bmB:List Value}{hdct:Bool}{sn:List Str}{sub:List Value}{ab:Bool}{col:Option Bool}{dd:Option Addr}{k0 k1 k2 k3 k5:Option Value}{B newId nid initId:String}
end
end L2
namespace L2
section
variable {P:Program}{w:World}{A:Around}{E:Value->Shared->Prop}{s:Shared}{K:PySem.W.Frag}{e C:Addr}{oe:Obj}{vs:Array Value}{name:Str}{v:Value}
end
end L2
namespace L2
section
variable {X:Cx}{a b c:Expr}{pos:Pos}{ta tb tc:TE}
end
end L2
namespace L2
variable [Reg]
section
variable {X:Cx}{O:Ow}{a b c:Expr}{es:List Expr}{pos apos cpos:Pos}{fa fb fc:Rho->Option PyData}
end
end L2
namespace L2
variable [Reg]
section
variable {X:Cx}{O:Ow}{a b c:Expr}{es:List Expr}{pos apos cpos p2:Pos}{fa fb fc:Rho->Option PyData}
theorem bools_of {bs:List Bool}:∀ {its:List Value},Vals (bs.map V.bl) its->its=bs.map Value.bool:=by
 induction bs with
 | nil=>intro its h;cases h;rfl
 | cons x r ih=>
  intro its h
  cases h with
  | cons h1 h2=>
   rw[ih h2]
   cases h1
   rfl
theorem call_all (hc:X.calm=true):CallR X (.builtin "all") (fun xs H Q=>∃ (p:Addr) (bs:List Bool),xs=[.ref p]∧SqL X.K H p (bs.map V.bl)∧Q (.bl (bs.all id)) H):=by
 intro pins s σ H xs us Q I r h
 obtain⟨p,bs,rfl,hq,k⟩:=h
 obtain⟨u,rfl,rx⟩:=vals1 r
 obtain rfl:u=Value.ref p:=rx
 obtain⟨its,r',pl,hz⟩:=I.list hq
 obtain rfl:=bools_of r'
 have hl:=pl.isList
 have hlt:p<s.heap.objs.size:=Heap.lt_size hl.choose_spec.1
 refine call_all_walk (wpAny_pyIter_list hl ?_)
 refine⟨_,_,_,_,_,_,fun i=>bs.getD i true,rfl,Walks.list (A:=X.A.in1) (I.ok.hd hc) _ p (Nat.ne_of_lt hlt) (bs.map Value.bool).toArray,⟨⟨_,Heap.get?_push_size _ rfl,rfl,rfl⟩,hl.push _⟩,fun i v s' Q' E' hv hQ=>?_,fun h' tk hk=>?_⟩
 ·have hv':(bs.map Value.bool)[i]?=some v:=by simpa using hv
  rw[List.getElem?_map] at hv'
  obtain⟨b,hb,rfl⟩:=Option.map_eq_some_iff.mp hv'
  refine wpAny_truthy_bool ?_
  have:bs.getD i true=b:=by rw[List.getD_eq_getElem?_getD,hb];rfl
  exact this▸(show Q' (bs.getD i true) s' from hQ)
 ·have hall:(List.range (bs.map Value.bool).toArray.size).all (fun i=>bs.getD i true)=bs.all id:=by
   rw[List.size_toArray,List.length_map,Bool.eq_iff_iff,List.all_eq_true,List.all_eq_true]
   constructor
   ·intro h x hx
    obtain⟨i,hi,rfl⟩:=List.getElem_of_mem hx
    have:=h i (List.mem_range.mpr hi)
    rwa [List.getD_eq_getElem?_getD,List.getElem?_eq_getElem hi] at this
   ·intro h i hi
    have hi:=List.mem_range.mp hi
    rw[List.getD_eq_getElem?_getD,List.getElem?_eq_getElem hi]
    exact h _ (List.getElem_mem hi)
  rw[hall]
  exact⟨.bl _,H,I.kept (t':=tk) (old_kept hk),rfl,k⟩
def boolO:PyData->Option Bool
 | .bool b=>some b
 | _=>none
def boolsO:List PyData->Option (List Bool)
 | []=>some []
 | d::r=>(boolO d).bind fun x=>(boolsO r).map fun xs=>x::xs
theorem boolO_some {d:PyData}{x:Bool}(h:boolO d=some x):d=.bool x:=by
 cases d with
 | bool y=>cases h;rfl
 | _=>cases h
theorem boolsO_den {K:PySem.W.Frag}{H:Hp}:∀ {ds:List PyData} {ss:List Bool} {vs:List V},boolsO ds=some ss->DenL K H vs ds->vs=ss.map V.bl:=by
 intro ds
 induction ds with
 | nil=>intro ss vs h D;cases h;cases D;rfl
 | cons d r ih=>
  intro ss vs h D
  obtain⟨x,h1,h2⟩:=bind_some h
  obtain⟨xs,h3,rfl⟩:=map_some h2
  cases D with
  | cons D1 D2=>
   rw[boolO_some h1] at D1
   rw[den_bl D1,ih h3 D2]
   rfl
def allD (d:PyData):Option PyData:=((listD d).bind boolsO).map fun bs=>.bool (bs.all id)
theorem v_all {p:Pos}(hc:X.calm=true)(hg:Gl X "all")(hm:X.mg "all"=none)(ha:PR X O a fa)(he:starEach [a] X.env=(false,eval a X.env)::starEach [] X.env:=by rfl)(hpl:(backTo pos (starEach [] X.env)).any (·.1)=false:=by rfl)
  (hv:bootBuiltins "all"=some (.builtin "all"):=by decide +kernel):PV X O (.Call (.Name "all" p) [a] [] pos) (fun ρ=>(fa ρ).bind allD):=
 (pe_callB (call_all hc) hg hm hv (pa_cons ha pa_nil he) (by decide) (by decide) he hpl).imp fun σ H Q zpat=>by
  obtain⟨hid,H0,ρ,ow,r,E,hf,k⟩:=zpat
  obtain⟨d,h1,h2⟩:=bind_some hf
  obtain⟨bs,h3,rfl⟩:=map_some h2
  obtain⟨ds,h4,h5⟩:=bind_some h3
  rw[listD_some h4] at h1
  refine⟨hid,H0,ρ,ow,_,E,h1,fun x H1 s1 D1=>?_⟩
  obtain⟨q,vs,rfl,q1,r1⟩:=den_lst D1
  rw[boolsO_den h5 r1] at q1
  exact⟨q,bs,rfl,(del_same _ _).seq q1,k _ H1 s1 (.bl _)⟩
end
end L2
namespace L2
section
variable [Reg]{X:Cx}{O:Ow}{tg e:Expr}{f:Rho->Option PyData}
end
section
variable {X:Cx}{O:Ow}{a b:Expr}{pos:Pos}{fa fb:Rho->Option PyData}
end
inductive TxtAt (K:PySem.W.Frag)(x v:Str):Prop
 | mk (t:Tok) (e:PySem.W.nsIn K mainGlobals x=some (some (.str v t))):TxtAt K x v
theorem TxtAt.of {K:PySem.W.Frag}{x v:Str}{t:Tok}(e:PySem.W.nsIn K mainGlobals x=some (some (.str v t))):TxtAt K x v:=⟨t,e⟩
end L2
namespace L2
end L2
namespace L2
variable [Reg]
inductive RXs where
 | ret (ds:List PyData) | exc (x:PyData)
def tXa (X:Cx)(O:Ow)(f:Rho->Option RXs):TA:=fun σ H Q=>At5 X.K O f σ H fun hid H0 ρ ow r=>
 match r with
 | .ret ds=>∀ vs H',Same H H'->DenL X.K (del H' (uni hid ow)) vs ds->Q vs H'
 | .exc x=>∀ pins s' H' a C od,Inv X pins σ H' s'->Same H H'->Fly X pins H' s' a C od->XIs X.K (del H' (uni hid ow)) C od x->X.xe (.ref a) s'
abbrev PXa (X:Cx)(O:Ow)(es:List Expr)(f:Rho->Option RXs):Prop:=PA X es (tXa X O f)
def RX.one:RX->RXs
 | .ret d=>.ret [d]
 | .exc x=>.exc x
def RXs.cons (d:PyData):RXs->RXs
 | .ret ds=>.ret (d::ds)
 | .exc x=>.exc x
def RXs.then (r:RXs)(F:List PyData->Option RX):Option RX:=match r with
 | .ret ds=>F ds
 | .exc x=>some (.exc x)
def RX.ix (k:Int)(r:RX):Option RX:=match r with
 | .ret d=>(ixD d (.int k)).map .ret
 | .exc x=>some (.exc x)
section
variable {X:Cx}{O:Ow}{e a b:Expr}{es:List Expr}{pos p:Pos}{f:Rho->Option RX}{fs:Rho->Option RXs}{fa:Rho->Option PyData}{k:Nat}{ps:List Str}{x:Str}{T:Ty}{F:List PyData->Option RX}
end
end L2
namespace L2
variable [Reg]
end L2
namespace L2
variable [Reg]
section
variable {K:PySem.W.Frag}{H C:Hp}
inductive PutIx (K:PySem.W.Frag)(H C:Hp)(t:Ty)(vs:List V)(ds:List PyData)(as:List Addr)(k:Nat)(d:PyData):Prop
 | mk (w:V) (bs cs:List Addr) (hw:vs[k]?=some w) (D:DenO K H C t w d bs) (sp:∀ p,p∈as↔p∈bs∨p∈cs) (dj:∀ p∈bs,p∉cs)
  (put:∀ (H' C':Hp) (d':PyData) (bs':List Addr),Same C C'->(∀ p∈cs,∀ o,H p=some o->H' p=some o)->DenO K H' C' t w d' bs'->(∀ p∈bs',p∉cs) ->
   ∃ as',DenOs K H' C' t vs (ds.set k d') as'∧∀ p,p∈as'↔p∈bs'∨p∈cs):PutIx K H C t vs ds as k d
theorem DenOs.put {t:Ty}{vs:List V}{ds:List PyData}{as:List Addr}(h:DenOs K H C t vs ds as):∀ {k:Nat} {d:PyData},ds[k]?=some d->PutIx K H C t vs ds as k d:=
 h.ind (P:=fun vs ds as=>∀ {k:Nat} {d:PyData},ds[k]?=some d->PutIx K H C t vs ds as k d) (fun e=>by rw[List.getElem?_nil] at e;cases e) fun {v d0 vs ds as bs} h0 r n ih {k d} e=>by
  cases k with
  | zero=>
   obtain rfl:d0=d:=by simpa using e
   refine⟨v,as,bs,rfl,h0,fun p=>List.mem_append,n,fun H' C' d' bs' c kp D dj=>⟨bs'++bs,.cons D (r.mono c fun p hp o=>kp p hp o) dj,fun p=>List.mem_append⟩⟩
  | succ k=>
   obtain⟨w,b1,c1,hw,D,sp,dj,put⟩:=ih (k:=k) (d:=d) (by simpa using e)
   refine⟨w,b1,as++c1,by simpa using hw,D,fun p=>?_,fun p hp z=>?_,fun H' C' d' bs' c kp D' dj'=>?_⟩
   ·rw[List.mem_append,List.mem_append,sp]
    constructor
    ·rintro (z | z | z)
     ·exact .inr (.inl z)
     ·exact .inl z
     ·exact .inr (.inr z)
    ·rintro (z | z | z)
     ·exact .inr (.inl z)
     ·exact .inl z
     ·exact .inr (.inr z)
   ·rcases List.mem_append.mp z with z | z
    ·exact n p z ((sp p).mpr (.inl hp))
    ·exact dj p hp z
   ·obtain⟨as',q1,q2⟩:=put H' C' d' bs' c (fun p hp=>kp p (List.mem_append_right _ hp)) D' fun p hp z=>dj' p hp (List.mem_append_right _ z)
    refine⟨as++as',.cons (h0.mono c fun p hp o=>kp p (List.mem_append_left _ hp) o) q1 fun p hp z=>?_,fun p=>?_⟩
    ·rcases (q2 p).mp z with z | z
     ·exact dj' p z (List.mem_append_left _ hp)
     ·exact n p hp ((sp p).mpr (.inr z))
    ·rw[List.mem_append,List.mem_append,q2]
     constructor
     ·rintro (z | z | z)
      ·exact .inr (.inl z)
      ·exact .inl z
      ·exact .inr (.inr z)
     ·rintro (z | z | z)
      ·exact .inr (.inl z)
      ·exact .inl z
      ·exact .inr (.inr z)
end
inductive IxAt (K:PySem.W.Frag)(O:Ow)(hid:Addr->Prop)(σ:St)(H:Hp)(ρ:Rho)(ow:List Addr)(i j:Nat)(cls:Str)(ns:List Str)(ts:List Ty)(ls:List PyData)(d0:PyData):Prop
 | mk (A:Nat->List Addr) (EA:OwnA K O hid σ H ρ ow A) (a b D dx:Addr) (vs:List V) (fs:List (Str×V)) (as bs cs:List Addr) (hl:i<ρ.length) (hv:σ[i]?=some (some (.ref a))) (hA:A i=a::as) (na:a∉as) (hH:H a=some (.lst vs)) (hj:vs[j]?=some (.ref b)) (hlen:vs.length=ls.length) (hb:H b=some (.ins D dx fs)) (hn:PySem.W.nsIn K mainGlobals cls=some (some (.ref D))) (hf:fs.map (·.1)=ns)
  (D0:DenO K H (del H (uni hid ow)) (.rc none cls ns ts) (.ref b) d0 bs) (sp:∀ p,p∈as↔p∈bs∨p∈cs) (dj:∀ p∈bs,p∉cs)
  (put:∀ (H' C':Hp) (d':PyData) (bs':List Addr),Same (del H (uni hid ow)) C'->(∀ p∈cs,∀ o,H p=some o->H' p=some o)->DenO K H' C' (.rc none cls ns ts) (.ref b) d' bs'->(∀ p∈bs',p∉cs) ->
   ∃ as',DenOs K H' C' (.rc none cls ns ts) vs (ls.set j d') as'∧∀ p,p∈as'↔p∈bs'∨p∈cs):IxAt K O hid σ H ρ ow i j cls ns ts ls d0
section
variable {X:Cx}{O:Ow}{a b:Expr}{es:List Expr}{fb:Rho->Option PyData}{fs:Rho->Option (List PyData)}{i k:Nat}{x m cls:Str}{ns ps:List Str}{ts:List Ty}{F:List PyData->Option (PyData×PyData)}{p ip apos cpos pos:Pos}{pl:Sem Bool}
theorem EnvOk.ixAt {K:PySem.W.Frag}{hid:Addr->Prop}{H0 H:Hp}{σ:St}{ρ:Rho}{ow:List Addr}(E:EnvOk K O hid H0 σ H ρ ow){j:Nat}{ls:List PyData}{d0:PyData}{fd:List PyData}(hO:O.s.lookup i=some (.lst (.rc none cls ns ts)))(hρ:(ρ[i]?).join.bind isL=some ls)(hj:ls[j]?=some d0)(hd:fdsD d0=some fd):IxAt K O hid σ H ρ ow i j cls ns ts ls d0:=by
 obtain⟨d,h1,h2⟩:=bind_some hρ
 have h1:=join_some h1
 obtain⟨A,EA⟩:=E.own
 obtain⟨v,hv,D⟩:=EA.1 i _ d hO h1
 have hl:=(List.getElem?_eq_some_iff.mp h1).1
 generalize hA:A i=Ai at D
 cases D with
 | non=>cases h2
 | @lst _ a vs ds' as hH q na=>
  obtain rfl:ds'=ls:=Option.some.inj h2
  obtain⟨w,bs,cs,hw,D0,sp,dj,put⟩:=q.put hj
  have D1:=D0
  cases D0 with
  | non=>cases hd
  | @rc _ _ _ _ b D dx fs ds2 as2 ho hH2 hn hf q2 na2=>exact⟨A,EA,a,b,D,dx,vs,fs,as,_,cs,hl,hv,hA,na,hH,hw,q.length,hH2,hn,hf,D1,sp,dj,put⟩
theorem IxAt.lend {K:PySem.W.Frag}{hid:Addr->Prop}{H0 H:Hp}{σ:St}{ρ:Rho}{ow:List Addr}{j:Nat}{ls:List PyData}{d0:PyData}(Z:IxAt K O hid σ H ρ ow i j cls ns ts ls d0)(E:EnvOk K O hid H0 σ H ρ ow){ds:List PyData}{us:List V}{r:PyData×PyData}{b':Addr}{vs':List V}{a':Addr}(hO:O.s.lookup i=some (.lst (.rc none cls ns ts)))(ha':σ[i]?=some (some (.ref a')))(hvs':H a'=some (.lst vs'))(hb':vs'[j]?=some (.ref b'))(Du:DenL K (del H (uni hid ow)) us ds)(hF:F (d0::ds)=some r){Q:VK}
  (k:∀ v H' ow',Same (del H (uni hid ow)) (del H' (uni hid ow'))->EnvOk K O hid H0 σ H' (ρ.set i (some (.list (ls.set j r.2)))) ow'->Den K (del H' (uni hid ow')) v r.1->Q v H'):SpRc K cls ns ts ns ts F (.ref b'::us) H Q:=by
 obtain⟨A,EA,a,b,D,dx,vs,fs,as,bs,cs,hl,hv,hA,na,hH,hj,hlen,hb,hn,hf,D0,sp,dj,put⟩:=Z
 rw[ha'] at hv
 obtain rfl:a'=a:=by injection hv with z;injection z with z;injection z
 rw[hvs'] at hH
 obtain rfl:vs'=vs:=by injection hH with z;injection z
 rw[hb'] at hj
 obtain rfl:b'=b:=by injection hj with z;injection z
 have a3:∀ q,q=a'∨q∈bs∨q∈cs->q∈ow:=fun q z=>EA.2.2 i q (by
  rw[hA]
  rcases z with z | z
  ·rw[z];exact List.mem_cons_self
  ·exact List.mem_cons_of_mem _ ((sp q).mpr z))
 have nh:∀ q,q∈ow->¬ hid q:=fun q y z=>(E.isl q y).2 z
 have nab:a'∉bs:=fun z=>na ((sp a').mpr (.inl z))
 have nac:a'∉cs:=fun z=>na ((sp a').mpr (.inr z))
 have eu:uni (fun q=>uni hid ow q∧q∉bs) bs=uni hid ow:=by
  funext q
  apply propext
  constructor
  ·rintro (z | z)
   ·exact z.1
   ·exact .inr (a3 q (.inr (.inl z)))
  ·intro z
   by_cases y:q∈bs
   ·exact .inr y
   ·exact .inl ⟨z,y⟩
 refine⟨fun q=>uni hid ow q∧q∉bs,b',bs,us,d0,ds,r,rfl,fun q z=>E.uniL q z.1,fun q z y=>y.2 z,by rw[eu];exact D0,by rw[eu];exact Du,hF,fun v as' H' s n D' Dv=>?_⟩
 have live:∀ q,q∈ow->H q≠none:=fun q y z=>by
  obtain⟨⟨o,e⟩,_⟩:=E.isl q y
  rw[z] at e
  cases e
 have dc:∀ q∈as',q∉cs:=fun q hq z=>by
  rcases n q hq with y | y
  ·exact dj q y z
  ·exact live q (a3 q (.inr (.inr z))) y
 have da:a'∉as':=fun hq=>by
  rcases n a' hq with y | y
  ·exact nab y
  ·exact live a' (a3 a' (.inl rfl)) y
 have eu2:∀ as2:List Addr,(∀ q,q∈as2↔q=a'∨q∈as'∨q∈cs)->uni (fun q=>uni hid ow q∧q∉bs) as'=uni hid (as2++restO ow (A i)):=fun as2 h2=>by
  funext q
  apply propext
  unfold uni
  simp only[List.mem_append,mem_restO,h2,hA,List.mem_cons,sp]
  constructor
  ·rintro (⟨z | z,y⟩ | z)
   ·exact .inl z
   ·by_cases y1:q=a'
    ·exact .inr (.inl (.inl y1))
    ·by_cases y2:q∈cs
     ·exact .inr (.inl (.inr (.inr y2)))
     ·exact .inr (.inr ⟨z,fun w=>by rcases w with w | w | w;exact y1 w;exact y w;exact y2 w⟩)
   ·exact .inr (.inl (.inr (.inl z)))
  ·rintro (z | (z | z | z) | ⟨z,y⟩)
   ·exact .inl ⟨.inl z,fun w=>nh q (a3 q (.inr (.inl w))) z⟩
   ·exact .inl ⟨.inr (a3 q (.inl z)),fun w=>nab (z▸w)⟩
   ·exact .inr z
   ·exact .inl ⟨.inr (a3 q (.inr (.inr z))),fun w=>dj q w z⟩
   ·exact .inl ⟨.inr z,fun w=>y (.inr (.inl w))⟩
 have sm:Same (del H (uni hid ow)) (del H' (uni (fun q=>uni hid ow q∧q∉bs) as')):=fun q o e=>by
  by_cases hq:uni hid ow q
  ·rw[del_in hq] at e;cases e
  ·rw[del_out hq] at e
   rw[del_out fun z=>?_]
   ·exact s q o (fun z=>hq (.inr (a3 q (.inr (.inl z))))) e
   ·rcases z with z | z
    ·exact hq z.1
    ·rcases n q z with y | y
     ·exact hq (.inr (a3 q (.inr (.inl y))))
     ·rw[y] at e;cases e
 obtain⟨as2,q1,q2⟩:=put H' _ r.2 as' sm (fun q hq o e=>s q o (fun z=>dj q z hq) e) D' dc
 have hmem:∀ q,q∈a'::as2↔q=a'∨q∈as'∨q∈cs:=fun q=>by rw[List.mem_cons,q2]
 rw[eu2 _ hmem] at q1
 have na2:a'∉as2:=fun z=>by
  rcases (q2 a').mp z with z | z
  ·exact da z
  ·exact nac z
 obtain⟨e1,e2⟩:=E.tree EA hO hl ha' (as2:=a'::as2) (d2:=.list (ls.set j r.2)) (H2:=H') (fun q o z e=>s q o (fun y=>z (by rw[hA];exact List.mem_cons_of_mem _ ((sp q).mpr (.inl y)))) e) (fun q hq=>by
  rcases (hmem q).mp hq with z | z | z
  ·exact .inl (by rw[hA,z];exact List.mem_cons_self)
  ·rcases n q z with y | y
   ·exact .inl (by rw[hA];exact List.mem_cons_of_mem _ ((sp q).mpr (.inl y)))
   ·exact .inr y
  ·exact .inl (by rw[hA];exact List.mem_cons_of_mem _ ((sp q).mpr (.inr z)))) (.lst (s a' _ nab hvs') q1 na2)
 exact k v H' _ e2 e1 (by rw[← eu2 _ hmem];exact Dv)
def setMix (n i:Nat)(fb:Rho->Option PyData)(F:List PyData->Option (PyData×PyData))(fs:Rho->Option (List PyData))(ρ:Rho):Option Out:=((ρ[i]?).join.bind isL).bind fun ls=>((fb ρ).bind intO).bind fun k=>(ixN ls.length k).bind fun j=>(ls[j]?).bind fun d0=>(fdsD d0).bind fun _=>(fs ρ).bind fun ds=>(F (d0::ds)).map fun r=>.nx ((ρ.set i (some (.list (ls.set j r.2)))).set n (some r.1))
theorem s_setMix {n:Nat}{y:Str}{yp:Pos}(hN:X.N.Nodup)(hyi:X.N[n]?=some y)(hy:Loc X.env.scope y)(G:DefRc X.prog X.w X.K X.mg X.base k cls m ps ns ts F)(hr:Room k X.A)(hx:PE X (.Name x p) (tVar i))(hb:PR X O b fb)(ha:PAv X O (a::es) fs)(hOn:O.s.lookup n=none:=by rfl)(hO:O.s.lookup i=some (.lst (.rc none cls ns ts)):=by rfl)(hfn:X.fn y=true∨X.env.scope.names.lookup y=some .local:=by first | exact .inl rfl | exact .inr rfl | assumption)(hm:ns.contains m=false:=by decide +kernel)(hix:PlainIx b:=by intro _ _;rfl)
  (hst:starEach (a::es) X.env=(false,eval a X.env)::starEach es X.env:=by rfl) (hpl:(backTo cpos (starEach es X.env)).any (·.1)=false:=by rfl)
  (ht:eval (.Call (.Attribute (.Subscript (.Name x p) b ip) m apos) (a::es) [] cpos) X.env=(do
   let ov ← eval (.Subscript (.Name x p) b ip) X.env
   standAt apos.atName
   let (f,first) ← holding [ov] (getMethod ov m pl)
   callWith cpos f first (backTo cpos (starEach (a::es) X.env)) (backToKw cpos (keywordEach [] X.env))):=by rfl)
  (hs:swapsWith (.Call (.Attribute (.Subscript (.Name x p) b ip) m apos) (a::es) [] cpos) (some (.Name y yp)) pos.line X.env=pure false:=by rfl) :
  PSv X O (.Assign [.Name y yp] (.Call (.Attribute (.Subscript (.Name x p) b ip) m apos) (a::es) [] cpos) pos) (setMix n i fb F fs):=by
 obtain⟨C,f,fd,c,hm',g1,g2,g3⟩:=G
 exact (ps_set hN hyi hy (pe_meth (pl:=pl) (pe_ix ix_list hx hb hix) c hm' g1 hr g3 .nil pass0 ha hst hpl ht) hs hfn).imp fun D σ H zpat=>by
  obtain⟨hid,H0,ρ,ow,o,E,hf,q⟩:=zpat
  obtain⟨ls,e0,hf⟩:=bind_some hf
  obtain⟨kk,e1,hf⟩:=bind_some hf
  obtain⟨j,e2,hf⟩:=bind_some hf
  obtain⟨d0,e3,hf⟩:=bind_some hf
  obtain⟨fd0,e4,hf⟩:=bind_some hf
  obtain⟨ds,e5,hf⟩:=bind_some hf
  obtain⟨r,e6,rfl⟩:=map_some hf
  obtain⟨dk,f1,f2⟩:=bind_some e1
  obtain rfl:=intO_some f2
  obtain⟨A,EA,a',b',D',dx,vs,fs',as,bs,cs,hl,hv,_⟩:=E.ixAt hO e0 e3 e4
  refine⟨.ref a',hv,hid,H0,ρ,ow,.int kk,E,f1,fun y H1 s1 Dk=>?_⟩
  have E1:=E.mono s1
  have Z:=E1.ixAt hO e0 e3 e4
  obtain⟨A1,EA1,a1,b1,D1,dx1,vs1,fs1,as1,bs1,cs1,hl1,hv1,hA1,na1,hH1,hj1,hlen1,hb1,hn1,hf1,_⟩:=E1.ixAt hO e0 e3 e4
  rw[hv1] at hv
  obtain rfl:a1=a':=by injection hv with z;injection z with z;injection z
  rw[g2] at hn1
  obtain rfl:C=D1:=by injection hn1 with z;injection z with z;injection z
  rw[den_int Dk]
  refine⟨a1,vs1,kk,.ref b1,rfl,rfl,SqL.of hH1,?_,b1,dx1,fs1,rfl,hb1,look_no (by rw[hf1];exact hm),hid,H0,ρ,ow,ds,E1,e5,fun us H2 s2 D2=>?_⟩
  ·unfold atI
   rw[hlen1,e2]
   exact hj1
  dsimp only
  rw[List.append_nil]
  have Z2:=(E1.mono s2).ixAt hO e0 e3 e4
  exact Z2.lend (E1.mono s2) hO hv1 (s2 _ _ hH1) hj1 D2 e6 fun v H' ow' s3 E3 Dv=>q _ H' ow' (((del_mono s1 _).trans (del_mono s2 _)).trans s3) (E3.set hOn Dv)
end
end L2
namespace L2
end L2
namespace L2
end L2
namespace L2
section
variable {X:Cx}{pins:List (Addr×Obj)}{σ:List (Option V)}{H H':Hp}{s:Shared}{h':Heap}
end
end L2
namespace L2
section
variable {X:Cx}
variable {a b:Expr}{ta tb:TE}{pos:Pos}
variable {tA tB':TT}{rest:List Expr}
end
end L2
namespace L2
end L2
namespace L2
end L2
namespace L2
section
variable {X:Cx}{a b c:Expr}{ta tb tc:TE}{pos:Pos}
end
end L2
namespace L2
section
variable {prog:Program}{w:World}{A:Around}{E:Value->Shared->Prop}{s:Shared}{K:PySem.W.Frag}{x dx C f:Addr}{mA:Str->Option Value}{name:Str}{v:Value}
end
section
variable {X:Cx}{pins:List (Addr×Obj)}{σ:St}{H:Hp}{s:Shared}{a C dx:Addr}{fs:List (Str×V)}{f:Str}{v:V}{A:Around}{E:Value->Shared->Prop}
end
end L2
namespace L2
section
variable {X:Cx}{CX:CXT}{k:Nat}{f C:Addr}{fd:FuncData}{ps:List Str}{sp:Sp}{dvs:List V}{ds:List Value}{E:XK}{x m:Str}{p pos apos:Pos}{e o:Expr}{es:List Expr}{ta:TE}{t:TA}
end
end L2
namespace L2
section
variable {X:Cx}{x:Str}{p pos:Pos}{e:Expr}{es:List Expr}{t:TA}{id T:String}{r:List V->Hp->VK->Prop}
end
end L2
namespace L2
section
variable {κ:Type}[DecidableEq κ]
def valV (kvs:List (κ×V))(k:κ):Option V:=(kvs.find? fun kv=>decide (kv.1=k)).map (·.2)
def putK (kvs:List (κ×V))(k:κ)(v:V):List (κ×V):=
 if (kvs.any fun kv=>decide (kv.1=k))=true then kvs.map (fun kv=>if kv.1=k then (kv.1,v) else kv) else kvs++[(k,v)]
theorem valV_pos {p:κ×V}{r:List (κ×V)}{k:κ}(e:p.1=k):valV (p::r) k=some p.2:=by simp[valV,List.find?_cons,e]
theorem valV_neg {p:κ×V}{r:List (κ×V)}{k:κ}(e:¬ p.1=k):valV (p::r) k=valV r k:=by simp[valV,List.find?_cons,e]
theorem valV_any (k:κ):∀ kvs:List (κ×V),(kvs.any fun kv=>decide (kv.1=k))=(valV kvs k).isSome
 | []=>rfl
 | p::r=>by
  rw[List.any_cons]
  by_cases e:p.1=k
  ·simp only[valV_pos e,decide_eq_true e,Bool.true_or,Option.isSome_some]
  ·rw[valV_neg e,decide_eq_false e,Bool.false_or];exact valV_any k r
theorem length_putK (kvs:List (κ×V))(k:κ)(v:V):(putK kvs k v).length≤kvs.length+1:=by
 unfold putK
 split
 ·rw[List.length_map];omega
 ·rw[List.length_append,List.length_cons,List.length_nil];omega
theorem RelO.isSome_eq {o:Option V}{u:Option Value}(r:RelO o u):o.isSome=u.isSome:=by
 cases o with
 | none=>cases u with
  | none=>rfl
  | some _=>exact (show False from r).elim
 | some _=>cases u with
  | none=>exact (show False from r).elim
  | some _=>rfl
theorem KV.val {kvs:List (κ×V)}{vs:List (κ×Value)}(r:KV kvs vs)(k:κ):RelO (valV kvs k) (valueAt vs k):=by
 unfold KV at r
 induction r with
 | nil=>exact True.intro
 | @cons p q ps qs h t ih=>
  obtain⟨h1,h2⟩:=h
  by_cases e:p.1=k
  ·have e':q.1=k:=h1.symm.trans e
   have b:valueAt (q::qs) k=some q.2:=by simp[valueAt,List.find?_cons,e']
   rw[valV_pos e,b];exact h2
  ·have e':¬ q.1=k:=fun z=>e (h1.trans z)
   have b:valueAt (q::qs) k=valueAt qs k:=by simp[valueAt,List.find?_cons,e']
   rw[valV_neg e,b];exact ih
theorem KV.any {kvs:List (κ×V)}{vs:List (κ×Value)}(r:KV kvs vs)(k:κ):(kvs.any fun kv=>decide (kv.1=k))=vs.any fun kv=>decide (kv.1=k):=by
 unfold KV at r
 induction r with
 | nil=>rfl
 | cons h t ih=>rw[List.any_cons,List.any_cons,ih,h.1]
theorem KV.repl {kvs:List (κ×V)}{vs:List (κ×Value)}(r:KV kvs vs)(k:κ){y:V}{u:Value}(ry:RelV y u) :
  KV (kvs.map fun kv=>if kv.1=k then (kv.1,y) else kv) (vs.map fun kv=>if kv.1=k then (kv.1,u) else kv):=by
 unfold KV at r ⊢
 induction r with
 | nil=>exact .nil
 | @cons p q ps qs h t ih=>
  rw[List.map_cons,List.map_cons]
  refine .cons ?_ ih
  obtain⟨h1,h2⟩:=h
  by_cases e:p.1=k
  ·rw[if_pos e,if_pos (h1.symm.trans e)];exact⟨h1,ry⟩
  ·rw[if_neg e,if_neg (fun z=>e (h1.trans z))];exact⟨h1,h2⟩
theorem KV.put {kvs:List (κ×V)}{vs:List (κ×Value)}(r:KV kvs vs)(k:κ){y:V}{u:Value}(ry:RelV y u):KV (putK kvs k y) (stored vs k u):=by
 unfold putK stored
 rw[r.any k]
 by_cases e:(vs.any fun kv=>decide (kv.1=k))=true
 ·rw[if_pos e,if_pos e];exact r.repl k ry
 ·rw[if_neg e,if_neg e];exact Paired.snoc r ⟨rfl,ry⟩
theorem KV.keys {kvs:List (κ×V)}{vs:List (κ×Value)}(r:KV kvs vs):kvs.map (·.1)=vs.map (·.1):=by
 unfold KV at r
 induction r with
 | nil=>rfl
 | cons h t ih=>rw[List.map_cons,List.map_cons,ih,h.1]
theorem KV.length {kvs:List (κ×V)}{vs:List (κ×Value)}(r:KV kvs vs):kvs.length=vs.length:=Paired.length r
end
theorem kV_is {P:Program}{w:World}{k:Key}{u:Value}(r:RelV (kV k) u):(mixKind P w).is k u=true:=by
 cases k with
 | inl i=>obtain⟨t,e⟩:=(show ∃ t,u=Value.int i t from r);subst e;exact mixKind_int P w i t
 | inr x=>obtain⟨t,e⟩:=(show ∃ t,u=Value.str x t from r);subst e;exact mixKind_str P w x t
theorem items_are {P:Program}{w:World}:∀ {ks:List Key} {us:List Value},Vals (ks.map kV) us->ItemsAre (mixKind P w) ks us
 | [],_,r=>by rw[List.map_nil] at r;cases r;exact .nil
 | k::ks,_,r=>by
  rw[List.map_cons] at r
  cases r with
  | cons h t=>exact .cons (kV_is h) (items_are t)
abbrev KT (H:Hp):List (List Key×V)->List (List Key×Addr×Value)->Prop:=Paired fun p q=>p.1=q.1∧H q.2.1=some (.tup (p.1.map kV))∧RelV p.2 q.2.2
theorem KT.val {H:Hp}{kvs:List (List Key×V)}{xs:List (List Key×Addr×Value)}(r:KT H kvs xs)(k:List Key):RelO (valV kvs k) ((atKey xs k).map (·.2)):=by
 induction r with
 | nil=>exact True.intro
 | @cons p q ps qs h t ih=>
  obtain⟨h1,_,h2⟩:=h
  by_cases e:p.1=k
  ·have e':q.1=k:=h1.symm.trans e
   have b:atKey (q::qs) k=some q.2:=by simp[atKey,List.find?_cons,e']
   rw[valV_pos e,b];exact h2
  ·have e':¬ q.1=k:=fun z=>e (h1.trans z)
   have b:atKey (q::qs) k=atKey qs k:=by simp[atKey,List.find?_cons,e']
   rw[valV_neg e,b];exact ih
theorem KT.repl {H:Hp}{kvs:List (List Key×V)}{xs:List (List Key×Addr×Value)}(r:KT H kvs xs)(k:List Key){y:V}{u:Value}(ry:RelV y u) :
  KT H (kvs.map fun kv=>if kv.1=k then (kv.1,y) else kv) (xs.map (putAt k u)):=by
 induction r with
 | nil=>exact .nil
 | @cons p q ps qs h t ih=>
  rw[List.map_cons,List.map_cons]
  refine .cons ?_ ih
  obtain⟨h1,h2,h3⟩:=h
  unfold putAt
  by_cases e:p.1=k
  ·rw[if_pos e,if_pos (h1.symm.trans e)];exact⟨h1,h2,ry⟩
  ·rw[if_neg e,if_neg (fun z=>e (h1.trans z))];exact⟨h1,h2,h3⟩
theorem KT.put {H:Hp}{kvs:List (List Key×V)}{xs:List (List Key×Addr×Value)}(r:KT H kvs xs)(k:List Key){b:Addr}{y:V}{u:Value}(hb:H b=some (.tup (k.map kV)))(ry:RelV y u) :
  KT H (putK kvs k y) (storedH xs k b u):=by
 have e:(kvs.any fun kv=>decide (kv.1=k))=(atKey xs k).isSome:=by
  rw[valV_any,(r.val k).isSome_eq,Option.isSome_map]
 unfold putK storedH
 rw[e]
 by_cases q:(atKey xs k).isSome=true
 ·rw[if_pos q,if_pos q];exact r.repl k ry
 ·rw[if_neg q,if_neg q];exact Paired.snoc r ⟨rfl,hb,ry⟩
theorem KT.keeps {H H':Hp}{kvs:List (List Key×V)}{xs:List (List Key×Addr×Value)}(r:KT H kvs xs)(ht:∀ b ys,H b=some (.tup ys)->H' b=some (.tup ys)):KT H' kvs xs:=
 Paired.mapP r fun _ _ z=>⟨z.1,ht _ _ z.2.1,z.2.2⟩
section
variable {P:Program}{w:World}{H:Hp}{h:Heap}{a:Addr}
theorem rd_of {u:HO}(ok:HOk P w H h)(e:Rd H a u):ObjOk P w H h a u:=e.ok ok
theorem dk_rd {kvs:List (Key×V)}(ok:HOk P w H h)(e:Rd H a (.dK kvs)):kvs.length≤sizeLine∧(a==sysModules)=false∧∃ vs,KV kvs vs∧h.DictOf (mixKind P w) a vs:=
 show ObjOk P w H h a (.dK kvs) from rd_of ok e
theorem dk_of {kvs:List (Key×V)}(ok:HOk P w H h)(e:H a=some (.dK kvs)):kvs.length≤sizeLine∧(a==sysModules)=false∧∃ vs,KV kvs vs∧h.DictOf (mixKind P w) a vs:=dk_rd ok (.inl e)
theorem key_of {ks:List Key}(ok:HOk P w H h)(e:H a=some (.tup (ks.map kV))):(tupleKind (mixKind P w)).is h ks a:=by
 obtain⟨_,its,r,o,h1,h2,n,h3⟩:=(show ObjOk P w H h a (.tup (ks.map kV)) from ok a _ e)
 exact⟨o,its.toArray,n,h1,h2,h3,by simpa using items_are r⟩
theorem dt_rd {kvs:List (List Key×V)}(ok:HOk P w H h)(e:Rd H a (.dT kvs)):kvs.length≤sizeLine∧(a==sysModules)=false ∧
  ∃ xs,KT H kvs xs∧h.DictOfH (tupleKind (mixKind P w)) a xs:=by
 obtain⟨z,y,xs,r,o,es,ep,h1,h2,h3,h4,h5⟩:=(show ObjOk P w H h a (.dT kvs) from rd_of ok e)
 refine⟨z,y,xs,r,o,es,ep,h1,h2,h3,h4,fun x hx=>?_,h5⟩
 have all:∀ {l:List (List Key×V)} {m:List (List Key×Addr×Value)},KT H l m->∀ x∈m,(tupleKind (mixKind P w)).is h x.1 x.2.1:=by
  intro l m q
  induction q with
  | nil=>intro x hx;exact nomatch hx
  | @cons p q ps qs hq t ih=>
   intro x hx
   rcases List.mem_cons.mp hx with e | hx
   ·subst e
    exact key_of ok (by rw[← hq.1];exact hq.2.1)
   ·exact ih x hx
 exact all r x hx
theorem dt_of {kvs:List (List Key×V)}(ok:HOk P w H h)(e:H a=some (.dT kvs)):kvs.length≤sizeLine∧(a==sysModules)=false ∧
 ∃ xs,KT H kvs xs∧h.DictOfH (tupleKind (mixKind P w)) a xs:=dt_rd ok (.inl e)
end
def DGet (H:Hp)(a:Addr)(y:V)(r:Option V):Prop:=
 (∃ kvs k,Rd H a (.dK kvs)∧y=kV k∧r=valV kvs k)∨∃ kvs k b,Rd H a (.dT kvs)∧y=.ref b∧H b=some (.tup (k.map kV))∧r=valV kvs k
def DPut (H:Hp)(a:Addr)(y v:V)(H':Hp):Prop:=
 (∃ kvs k,H a=some (.dK kvs)∧y=kV k∧kvs.length<sizeLine∧H'=upd H a (.dK (putK kvs k v))) ∨
 ∃ kvs k b,H a=some (.dT kvs)∧y=.ref b∧H b=some (.tup (k.map kV))∧kvs.length<sizeLine∧H'=upd H a (.dT (putK kvs k v))
theorem DGet.k {H:Hp}{a:Addr}{kvs:List (Key×V)}{k:Key}(e:H a=some (.dK kvs)):DGet H a (kV k) (valV kvs k):=.inl ⟨kvs,k,.inl e,rfl,rfl⟩
theorem DGet.t {H:Hp}{a b:Addr}{kvs:List (List Key×V)}{k:List Key}(e:H a=some (.dT kvs))(eb:H b=some (.tup (k.map kV))):DGet H a (.ref b) (valV kvs k):=.inr ⟨kvs,k,b,.inl e,rfl,eb,rfl⟩
theorem DPut.k {H:Hp}{a:Addr}{kvs:List (Key×V)}{k:Key}{v:V}(e:H a=some (.dK kvs))(hl:kvs.length<sizeLine):DPut H a (kV k) v (upd H a (.dK (putK kvs k v))):=.inl ⟨kvs,k,e,rfl,hl,rfl⟩
theorem DPut.t {H:Hp}{a b:Addr}{kvs:List (List Key×V)}{k:List Key}{v:V}(e:H a=some (.dT kvs))(eb:H b=some (.tup (k.map kV)))(hl:kvs.length<sizeLine) :
 DPut H a (.ref b) v (upd H a (.dT (putK kvs k v))):=.inr ⟨kvs,k,b,e,rfl,eb,hl,rfl⟩
section
variable {X:Cx}{pins:List (Addr×Obj)}{σ:St}{H:Hp}{s:Shared}{a:Addr}{y v:V}{u r:Value}{o:Option V}{A:Around}{E:Value->Shared->Prop}
theorem Inv.big (I:Inv X pins σ H s):sysModules<s.heap.objs.size:=by
 have h:mainGlobals<s.heap.objs.size:=(I.mod.glob.keeps I.bk).lt
 exact Nat.lt_trans (by decide) h
theorem d_getItem {Q:Value->Shared->Prop}(hu:A.units+1<cLine)(I:Inv X pins σ H s)(g:DGet H a y (some v))(ry:RelV y u)(h:∀ w' s',Inv X pins σ H s'->RelV v w'->Q w' s') :
  wpAny (model X.prog X.w) A (getItem (.ref a) u) Q E s:=by
 rcases g with ⟨kvs,k,e,ey,l⟩ | ⟨kvs,k,b,e,ey,eb,l⟩
 ·subst ey
  obtain⟨z,hd,vs,rel,dd⟩:=dk_rd I.hok e
  obtain⟨w',hw,rw'⟩:=RelO.some_of (v:=v) (o:=valueAt vs k) (by rw[l];exact rel.val k)
  exact wpAny_getItem_of (kV_is ry) dd.mapOf hw (h w' _ (I.tok _) rw')
 ·subst ey
  cases (show u=Value.ref b from ry)
  obtain⟨z,hd,xs,rel,dd⟩:=dt_rd I.hok e
  obtain⟨w',hw,rw'⟩:=RelO.some_of (v:=v) (o:=(atKey xs k).map (·.2)) (by rw[l];exact rel.val k)
  obtain⟨p,hp,hp2⟩:=Option.map_eq_some_iff.mp hw
  refine wpAny_getItem_heap (tupleKind_room_in1 hu) (key_of I.hok eb) dd hp ?_
  rw[hp2]
  exact h w' _ (I.tok _) rw'
theorem d_write {h':Heap}{t':Nat}{ob:HO}(I:Inv X pins σ H s)(mu:Mut (H a))(hs:Heap.SameBut a s.heap h')(he:∃ q,h'.get? a=some q)(new:ObjOk X.prog X.w (upd H a ob) h' a ob) :
  Inv X pins σ (upd H a ob) { s with heap:=h',toks:=t' }:=
 I.write (x:=a) (e:=a) mu (.inl rfl) (fun b q hb z=>(hs.2 b hb).trans z) he new
theorem dk_new {P:Program}{w:World}{H':Hp}{h':Heap}{kvs:List (Key×V)}{vs:List (Key×Value)}(z:kvs.length≤sizeLine)(hd:(a==sysModules)=false)(rel:KV kvs vs)(dd:h'.DictOf (mixKind P w) a vs) :
 ObjOk P w H' h' a (.dK kvs):=⟨z,hd,vs,rel,dd⟩
theorem d_setItem {H':Hp}{Q:Unit->Shared->Prop}(hu:A.units+1<cLine)(I:Inv X pins σ H s)(g:DPut H a y v H')(ry:RelV y u)(rv:RelV v r)(h:∀ s',Inv X pins σ H' s'->Q () s') :
  wpAny (model X.prog X.w) A (setItem (.ref a) u r) Q E s:=by
 rcases g with ⟨kvs,k,e,ey,l,eH⟩ | ⟨kvs,k,b,e,ey,eb,l,eH⟩
 ·subst ey eH
  obtain⟨z,hd,vs,rel,dd⟩:=dk_of I.hok e
  have hz:vs.length≤sizeLine:=by rw[← rel.length];exact z
  have hl:(putK kvs k v).length≤sizeLine:=by have:=length_putK kvs k v;omega
  refine wpAny_setItem_pairs (hsz:=hz) (kV_is ry) dd fun h' dd' hs=>h _ ?_
  have he:∃ q,h'.get? a=some q:=let ⟨q,_,_,hq,_⟩:=dd';⟨q,hq⟩
  exact d_write I (by rw[e];exact True.intro) hs he (dk_new hl hd (rel.put k rv) dd')
 ·subst ey eH
  cases (show u=Value.ref b from ry)
  obtain⟨z,hd,xs,rel,dd⟩:=dt_of I.hok e
  have hz:xs.length≤sizeLine:=by rw[← Paired.length rel];exact z
  have hl:(putK kvs k v).length≤sizeLine:=by have:=length_putK kvs k v;omega
  refine wpAny_setItem_heap (hsz:=hz) (tupleKind_room_in1 hu) (key_of I.hok eb) dd fun h' dd' hs=>h _ ?_
  obtain⟨q,es,ep,hq,h2,h3,h4,_,h5⟩:=dd'
  refine d_write I (by rw[e];exact True.intro) hs ⟨q,hq⟩ ⟨hl,hd,_,(rel.put k eb rv).keeps fun c ys ec=>?_,q,es,ep,hq,h2,h3,h4,h5⟩
  rw[upd_ne (ne_of ec e (fun z=>nomatch z))]
  exact ec
end
def NoSl (i:Expr):Prop:=∀ ov iv,subscripted i false ov iv=operate [ov,iv] (getItem ov iv)
theorem subD_of {prog:Program}{w:World}{A:Around}{E:Value->Shared->Prop}{s:Shared}{env:Env}{value slice:Expr}{pos:Pos}{T id:String}{Q:Value->Shared->Prop}
  (hl:typeLookup (.type T) "__getitem__"=pure (some (.builtin id))) (hs:NoSl slice)
  (h:wpAny (model prog w) A (eval value env) (fun o s₁=>wpAny (model prog w) A (eval slice env) (fun i s₂=>s₂.TypeIs o T∧wpAny (model prog w) A (getItem o i) Q E s₂) E s₁) E s) :
  wpAny (model prog w) A (eval (.Subscript value slice pos) env) Q E s:=by
 refine Subscript_ (wpAny_mono h (fun o s₁ h₁=>wpAny_mono h₁ (fun i s₂ h₂=>?_) fun _ _ x=>x) fun _ _ x=>x)
 obtain⟨hT,h₂⟩:=h₂
 unfold subscriptTail
 refine wpAny_bind ?_
 rw[getitemInPython_of_ne hT.not_modules]
 refine wpAny_bind (wpAny_specialOf hT hl ?_)
 have fin:wpAny (model prog w) A (subscripted slice false o i) (fun r s₃=>wpAny (model prog w) A (letTemporaryGo value o r >>= fun _=>pure r) Q E s₃) E s₂:=by
  rw[hs o i]
  exact wpAny_operating (wpAny_mono h₂ (fun r s₃ h₃=>wpAny_bind (wpAny_letTemporaryGo (wpAny_pure h₃))) fun _ _ x=>x)
 first
  | exact wpAny_pure (wpAny_bind fin)
  | exact wpAny_bind (wpAny_pure (wpAny_bind fin))
  | exact wpAny_bind fin
theorem dict_typeIs {X:Cx}{pins:List (Addr×Obj)}{σ:St}{H:Hp}{s:Shared}{a:Addr}{y:V}{o:Option V}(I:Inv X pins σ H s)(g:DGet H a y o):s.TypeIs (.ref a) "dict":=by
 rcases g with ⟨kvs,k,e,_,_⟩ | ⟨kvs,k,b,e,_,_,_⟩
 ·obtain⟨_,_,vs,_,dd⟩:=dk_rd I.hok e
  exact dd.typeIs
 ·obtain⟨_,_,xs,_,dd⟩:=dt_rd I.hok e
  exact dd.typeIs
def tDGet (td ty:TE):TE:=fun σ H Q=>td σ H fun x H1=>ty σ H1 fun y H2=>∃ a v,x=.ref a∧DGet H2 a y (some v)∧Q v H2
def sDPut (td ty tv:TE):TS:=fun D σ H=>tv σ H fun v H1=>td σ H1 fun x H2=>ty σ H2 fun y H3=>∃ a H4,x=.ref a∧DPut H3 a y v H4∧D.nx σ H4
section
variable {X:Cx}{o i e value:Expr}{pos pos' tpos:Pos}{td ty tv:TE}
theorem pe_dget (hu:X.A.units+1<cLine)(ho:PE X o td)(hi:PE X i ty)(hs:NoSl i):PE X (.Subscript o i pos) (tDGet td ty):=by
 intro pins s σ H Q I h
 refine subD_of PySem.F.slot_dict_getitem.lookup hs (thn (ho pins s σ H _ I h) fun u s1 ⟨x,H1,I1,rx,q1⟩=>thn (hi pins s1 σ H1 _ I1 q1) fun iv s2 ⟨y,H2,I2,ry,a,v,ex,g,q2⟩=>?_)
 subst ex
 obtain rfl:u=Value.ref a:=rx
 exact⟨dict_typeIs I2 g,d_getItem hu I2 g ry fun w' s3 I3 rw'=>⟨v,H2,I3,rw',q2⟩⟩
theorem ps_dput (hu:X.A.units+1<cLine)(ho:PE X o td)(hi:PE X i ty)(hv:PE X value tv)(hs:swapsWith value (some (.Subscript o i pos')) pos.line X.env=pure false) :
  PS X (.Assign [.Subscript o i pos'] value pos) (sDPut td ty tv):=by
 intro pins s σ H D I h
 refine wpAny_Assign_Subscript (thn (hv pins s σ H _ I h) fun r s1 ⟨v,H1,I1,rv,q1⟩=>thn (ho pins s1 σ H1 _ I1 q1) fun u s2 ⟨x,H2,I2,rx,q2⟩=>thn (hi pins s2 σ H2 _ I2 q2) fun iv s3 ⟨y,H3,I3,ry,a,H4,ex,g,q3⟩=>?_) hs
 subst ex
 obtain rfl:u=Value.ref a:=rx
 exact d_setItem hu I3 g ry rv fun s4 I4=>⟨σ,H4,I4,q3⟩
end
theorem dk_empty {P:Program}{w:World}{H:Hp}(h:Heap)(hb:sysModules<h.objs.size):ObjOk P w H (h.push { cls:=.type "dict",data:=.dict #[] }) h.objs.size (.dK []):=
 ⟨Nat.zero_le _,beq_eq_false_iff_ne.mpr (Ne.symm (Nat.ne_of_lt hb)),[],.nil,Heap.DictOf.new h⟩
def tPairs:List (TE×TE)->St->Hp->(List (V×V)->Hp->Prop)->Prop
 | [],_,H,Q=>Q [] H
 | (tk,tv)::r,σ,H,Q=>tk σ H fun x H1=>tv σ H1 fun y H2=>tPairs r σ H2 fun ps H3=>Q ((x,y)::ps) H3
abbrev VV:List (V×V)->List (Value×Value)->Prop:=Paired fun p q=>RelV p.1 q.1∧RelV p.2 q.2
def PPs (X:Cx)(pos:Pos)(keys:List (Option Expr))(values:List Expr)(trs:List (TE×TE)):Prop:=
 ∀ (pins:List (Addr×Obj)) (s:Shared) (σ:St) (H:Hp) (Q:List (V×V)->Hp->Prop),Inv X pins σ H s->tPairs trs σ H Q ->
  wpAny (model X.prog X.w) X.A (evalPairs (pairTrees keys values X.env pos)) (fun vs s'=>∃ ps H',Inv X pins σ H' s'∧VV ps vs∧Q ps H') X.xe s
theorem pps_nil {X:Cx}{pos:Pos}:PPs X pos [] [] []:=fun pins s σ H Q I h=>pairTrees_nil_walk ⟨[],H,I,.nil,h⟩
theorem pps_cons {X:Cx}{pos:Pos}{k v:Expr}{ks:List (Option Expr)}{vs:List Expr}{tk tv:TE}{trs:List (TE×TE)}(hk:PE X k tk)(hv:PE X v tv)(hr:PPs X pos ks vs trs) :
  PPs X pos (some k::ks) (v::vs) ((tk,tv)::trs):=fun pins s σ H Q I h=>
 pairTrees_cons_walk (thn (hk pins s σ H _ I h) fun u s1 ⟨x,H1,I1,rx,q1⟩=>thn (hv pins s1 σ H1 _ I1 q1) fun w2 s2 ⟨y,H2,I2,ry,q2⟩=>
  thn (hr pins s2 σ H2 _ I2 q2) fun ws s3 ⟨ps,H3,I3,rel,q3⟩=>⟨(x,y)::ps,H3,I3,.cons ⟨rx,ry⟩ rel,q3⟩)
def mergeK (kvs more:List (Key×V)):List (Key×V):=more.foldl (fun acc kv=>putK acc kv.1 kv.2) kvs
theorem KV.merge:∀ {more:List (Key×V)} {rs:List (Key×Value)} {kvs:List (Key×V)} {vs:List (Key×Value)},KV more rs->KV kvs vs->KV (mergeK kvs more) (merged vs rs):=by
 intro more rs kvs vs r
 unfold KV at r
 induction r generalizing kvs vs with
 | nil=>intro q;exact q
 | @cons p q ps qs h t ih=>
  intro r0
  have e:KV (putK kvs p.1 p.2) (stored vs q.1 q.2):=by
   have:=r0.put p.1 h.2
   rw[← h.1];exact this
  exact ih e
theorem length_mergeK:∀ (more kvs:List (Key×V)),(mergeK kvs more).length≤kvs.length+more.length
 | [],kvs=>by show kvs.length≤kvs.length+0;omega
 | p::r,kvs=>by
  have h1:=length_mergeK r (putK kvs p.1 p.2)
  have h2:=length_putK kvs p.1 p.2
  show (mergeK (putK kvs p.1 p.2) r).length≤_
  rw[List.length_cons];omega
theorem carries_of {P:Program}{w:World}:∀ {kvs:List (Key×V)} {ws:List (Value×Value)},VV (kvs.map fun kv=>(kV kv.1,kv.2)) ws->∃ rs,Carries (mixKind P w) ws rs∧KV kvs rs
 | [],_,r=>by rw[List.map_nil] at r;cases r;exact⟨[],True.intro,.nil⟩
 | p::kvs,_,r=>by
  rw[List.map_cons] at r
  cases r with
  | @cons a b as bs h t=>
   obtain⟨rs,c,q⟩:=carries_of (P:=P) (w:=w) t
   obtain⟨b1,b2⟩:=b
   exact⟨(p.1,b2)::rs,⟨kV_is h.1,rfl,c⟩,.cons ⟨rfl,h.2⟩ q⟩
def tDisp (trs:List (TE×TE)):TE:=fun σ H Q=>∀ p,H p=none->tPairs trs σ (upd H p (.dK [])) fun ps H2=>H2 p=some (.dK [])∧∃ kvs:List (Key×V),ps=kvs.map (fun kv=>(kV kv.1,kv.2))∧kvs.length≤15∧Q (.ref p) (upd H2 p (.dK (mergeK [] kvs)))
theorem pe_disp {X:Cx}{pos:Pos}{keys:List (Option Expr)}{values:List Expr}{trs:List (TE×TE)}(h:PPs X pos keys values trs)(hall:keys.all (·.isSome)=true)(hl:keys.length=values.length)(h0:keys≠[])
  (h15:keys.length≤15):PE X (.Dict keys values pos) (tDisp trs):=by
 intro pins s σ H Q I q
 have hn:=I.hok.fresh (Nat.le_refl s.heap.objs.size)
 have I1:=I.laid (a:=s.heap.objs.size) (o:=.dK []) (h':=s.heap.push { cls:=.type "dict",data:=.dict #[] }) (t':=s.toks) (fun _ _ q=>Heap.get?_push_of_some _ q) (Nat.le_refl _) (dk_empty s.heap I.big)
 refine wpAny_Dict_walk (knd:=mixKind X.prog X.w) hall hl h0 h15 (thn (h pins _ σ _ _ I1 (q _ hn)) fun ws s2 ⟨ps,H2,I2,rel,e,kvs,ep,lk,q2⟩=>?_)
 subst ep
 obtain⟨rs,c,rk⟩:=carries_of (P:=X.prog) (w:=X.w) rel
 obtain⟨z,hd,vs0,r0,dd⟩:=dk_of I2.hok e
 cases r0
 refine⟨rs,c,dd,fun h' dd' hs=>⟨.ref s.heap.objs.size,_,?_,rfl,q2⟩⟩
 have hz:(mergeK [] kvs).length≤sizeLine:=by
  have h1:=length_mergeK kvs []
  rw[List.length_nil] at h1
  rw[sizeLine_eq];omega
 have he:∃ q,h'.get? s.heap.objs.size=some q:=let ⟨q,_,_,hq,_⟩:=dd';⟨q,hq⟩
 exact d_write I2 (by rw[e];exact True.intro) hs he (dk_new hz hd (rk.merge .nil) dd')
end L2
namespace Att
open PySem PySem.W PySem.Calls PyProof.Rows
section
variable {prog:Program}{w:World}{A:Around}{E:Value->Shared->Prop}{s:Shared}{K:Frag}
end
end Att
namespace L2
end L2
namespace L2
end L2
namespace L2
variable [Reg]
def dictL:PyData->List (PyData×PyData)
 | .dict l=>l
 | _=>[]
def tupL:PyData->List PyData
 | .tuple l=>l
 | _=>[]
section
variable {X:Cx}{O:Ow}{a:Expr}{fa:Rho->Option PyData}{pos:Pos}{f:Str}{exs:List Str}
end
theorem ft_non {X:Cx}{O:Ow}{T:Ty}{j:Nat}{pos:Pos}:PFt X O T (.Constant .none j pos) (fun _=>some .none):=pe_non.imp fun σ H Q zpat=>by
 obtain⟨hid,H0,ρ,ow,d,E,hf,k⟩:=zpat
 obtain rfl:=Option.some.inj hf
 exact k .non [] H (Same.refl H) (fun p hp=>by cases hp) .non
end L2
namespace L2
variable [Reg]
def isZ:PyData->Bool
 | .int _=>true
 | _=>false
def isDct (d:PyData):Bool:=isZ ((dictL d).getD 0 (.none,.none)).1
def dctKs (d:PyData):List PyData:=tupL ((dictL d).getD 0 (.none,.none)).2
def dctVs (d:PyData):List PyData:=tupL ((dictL d).getD 1 (.none,.none)).2
def mkDct (ks ds:List PyData):PyData:=.dict [(.int 0,.tuple ks),(.none,.tuple ds)]
def putS (key:Str)(x:PyData):List PyData->List PyData->Option (List PyData)
 | .str n::ns,d::ds=>if n=key then some (x::ds) else (putS key x ns ds).map fun r=>d::r
 | _,_=>none
def dgetD (key:Str)(d:PyData):Option PyData:=if isDct d=true then lookD key (dctKs d) (dctVs d) else none
def dputD (key:Str)(x d:PyData):Option PyData:=if isDct d=true then (putS key x (dctKs d) (dctVs d)).map (mkDct (dctKs d)) else none
inductive DctI (K:PySem.W.Frag)(H:Hp)(v:V)(d:PyData):Prop
 | mk (a:Addr) (kvs:List (Key×V)) (ks:List Str) (e:v=.ref a) (h:DctV H a kvs ks) (hk:dctKs d=ks.map .str) (hd:DenL K H (kvs.map (·.2)) (dctVs d)) (e2:d=dctD ks (dctVs d)):DctI K H v d
theorem den_dct {K:PySem.W.Frag}{H:Hp}{v:V}{d:PyData}(h:Den K H v d)(q:isDct d=true):DctI K H v d:=by
 cases h with
 | dct h r=>exact⟨_,_,_,rfl,h,rfl,r,rfl⟩
 | _=>cases q
theorem look_dct {K:PySem.W.Frag}{H:Hp}{key:Str}{r:PyData}:∀ {kvs:List (Key×V)} {ks:List Str} {ds:List PyData},kvs.map (·.1)=ks.map Sum.inr->DenL K H (kvs.map (·.2)) ds->lookD key (ks.map .str) ds=some r->∃ w,valV kvs (Sum.inr key)=some w∧Den K H w r
 | [],[],_,_,_,e=>by cases e
 | [],_::_,_,h,_,_=>by cases h
 | _::_,[],_,h,_,_=>by cases h
 | (k,v)::kvs,n::ks,[],_,D,_=>by cases D
 | (k,v)::kvs,n::ks,d::ds,h,D,e=>by
  rw[List.map_cons,List.map_cons] at h
  obtain⟨h1,h2⟩:=List.cons.inj h
  have h1':k=Sum.inr n:=h1
  subst h1'
  rw[List.map_cons] at D
  cases D with
  | cons D1 D2=>
   have e':(if n=key then some d else lookD key (ks.map .str) ds)=some r:=e
   by_cases hn:n=key
   ·rw[if_pos hn] at e'
    obtain rfl:=Option.some.inj e'
    subst hn
    exact⟨v,valV_pos rfl,D1⟩
   ·rw[if_neg hn] at e'
    obtain⟨w,w1,w2⟩:=look_dct h2 D2 e'
    exact⟨w,by rw[valV_neg fun z=>hn (Sum.inr.inj z)];exact w1,w2⟩
theorem put_any {key:Str}{x:PyData}:∀ {kvs:List (Key×V)} {ks:List Str} {ds ds':List PyData},kvs.map (·.1)=ks.map Sum.inr->putS key x (ks.map .str) ds=some ds'->(kvs.any fun kv=>decide (kv.1=(Sum.inr key:Key)))=true
 | [],[],_,_,_,e=>by cases e
 | [],_::_,_,_,h,_=>by cases h
 | _::_,[],_,_,h,_=>by cases h
 | (k,v)::kvs,n::ks,[],_,_,e=>by cases e
 | (k,v)::kvs,n::ks,d::ds,ds',h,e=>by
  obtain⟨h1,h2⟩:=List.cons.inj h
  have h1':k=Sum.inr n:=h1
  subst h1'
  have e':(if n=key then some (x::ds) else (putS key x (ks.map .str) ds).map fun r=>d::r)=some ds':=e
  rw[List.any_cons]
  by_cases hn:n=key
  ·subst hn
   simp
  ·rw[if_neg hn] at e'
   obtain⟨r,r1,_⟩:=map_some e'
   rw[put_any h2 r1,Bool.or_true]
theorem put_map {K:PySem.W.Frag}{H:Hp}{key:Str}{x:PyData}{v:V}(Dv:Den K H v x):∀ {kvs:List (Key×V)} {ks:List Str} {ds ds':List PyData},ks.Nodup->kvs.map (·.1)=ks.map Sum.inr->DenL K H (kvs.map (·.2)) ds->putS key x (ks.map .str) ds=some ds' ->
  (kvs.map (fun kv=>if kv.1=(Sum.inr key:Key) then (kv.1,v) else kv)).map (·.1)=ks.map Sum.inr∧DenL K H ((kvs.map (fun kv=>if kv.1=(Sum.inr key:Key) then (kv.1,v) else kv)).map (·.2)) ds'
 | [],[],_,_,_,_,_,e=>by cases e
 | [],_::_,_,_,_,h,_,_=>by cases h
 | _::_,[],_,_,_,h,_,_=>by cases h
 | (k,w)::kvs,n::ks,[],_,_,_,_,e=>by cases e
 | (k,w)::kvs,n::ks,d::ds,ds',nd,h,D,e=>by
  obtain⟨h1,h2⟩:=List.cons.inj h
  have h1':k=Sum.inr n:=h1
  subst h1'
  rw[List.map_cons] at D
  obtain⟨nd1,nd2⟩:=List.nodup_cons.mp nd
  have e':(if n=key then some (x::ds) else (putS key x (ks.map .str) ds).map fun r=>d::r)=some ds':=e
  cases D with
  | cons D1 D2=>
   by_cases hn:n=key
   ·rw[if_pos hn] at e'
    obtain rfl:=Option.some.inj e'
    subst hn
    have hrest:kvs.map (fun kv=>if kv.1=(Sum.inr n:Key) then (kv.1,v) else kv)=kvs:=by
     refine (List.map_congr_left fun kv hkv=>?_).trans (List.map_id kvs)
     have hm:kv.1∈ks.map (Sum.inr:Str->Key):=by rw[← h2];exact List.mem_map.mpr ⟨kv,hkv,rfl⟩
     obtain⟨m,m1,m2⟩:=List.mem_map.mp hm
     exact if_neg fun z=>nd1 (by rw[← m2] at z;rw[← Sum.inr.inj z];exact m1)
    rw[List.map_cons,if_pos rfl,hrest]
    exact⟨by rw[List.map_cons,List.map_cons,h2],.cons Dv D2⟩
   ·rw[if_neg hn] at e'
    obtain⟨r,r1,rfl⟩:=map_some e'
    obtain⟨a,b⟩:=put_map Dv nd2 h2 D2 r1
    rw[List.map_cons,if_neg fun z=>hn (Sum.inr.inj z)]
    exact⟨by rw[List.map_cons,List.map_cons,a],.cons D1 b⟩
theorem putK_dct {K:PySem.W.Frag}{H:Hp}{key:Str}{x:PyData}{v:V}(Dv:Den K H v x){kvs:List (Key×V)}{ks:List Str}{ds ds':List PyData}(nd:ks.Nodup)(h:kvs.map (·.1)=ks.map Sum.inr)(D:DenL K H (kvs.map (·.2)) ds)(e:putS key x (ks.map .str) ds=some ds') :
  (putK kvs (Sum.inr key) v).map (·.1)=ks.map Sum.inr∧DenL K H ((putK kvs (Sum.inr key) v).map (·.2)) ds':=by
 unfold putK
 rw[if_pos (put_any h e)]
 exact put_map Dv nd h D e
section
variable {X:Cx}{O:Ow}{e:Expr}{f:Rho->Option PyData}{pos kp:Pos}{key:Str}{j:Nat}
theorem units1 (hu:X.A.units+64<cLine):X.A.units+1<cLine:=Nat.lt_of_le_of_lt (Nat.add_le_add_left (by decide:1≤64) _) hu
theorem r_dget (hu:X.A.units+64<cLine)(h:PR X O e f)(hs:NoSl (.Constant (.str key) j kp):=by intro _ _;rfl):PR X O (.Subscript e (.Constant (.str key) j kp) pos) (fun ρ=>(f ρ).bind (dgetD key)):=(pe_dget (units1 hu) h pe_str hs).imp fun σ H Q zpat=>by
 obtain⟨hid,H0,ρ,ow,r,E,hf,k⟩:=zpat
 obtain⟨d,h1,h2⟩:=bind_some hf
 refine⟨hid,H0,ρ,ow,d,E,h1,fun v H' s D=>?_⟩
 unfold dgetD at h2
 split at h2
 case isFalse=>cases h2
 rename_i hd
 obtain⟨a,kvs,ks,rfl,hv,hk,hD,_⟩:=den_dct D hd
 rw[hk] at h2
 obtain⟨w,w1,w2⟩:=look_dct hv.2 hD h2
 exact⟨a,w,rfl,by rw[← w1];exact DGet.k (k:=Sum.inr key) (del_same _ _ _ _ hv.1),k w H' s w2⟩
theorem v_dgetO {i:Nat}{oa:Option Addr}{ns:List Str}(hu:X.A.units+64<cLine)(h:PE X e (tVar i))(hO:O.s.lookup i=some (.dc oa ns):=by rfl)(hs:NoSl (.Constant (.str key) j kp):=by intro _ _;rfl):PV X O (.Subscript e (.Constant (.str key) j kp) pos) (fun ρ=>((ρ[i]?).join).bind (dgetD key)):=(pe_dget (units1 hu) h pe_str hs).imp fun σ H Q zpat=>by
 obtain⟨hid,H0,ρ,ow,r,E,hf,k⟩:=zpat
 obtain⟨d,h1,h2⟩:=bind_some hf
 obtain⟨A,EA⟩:=E.own
 obtain⟨v,hv,D⟩:=EA.1 i _ d hO (join_some h1)
 generalize A i=Ai at D
 cases D with
 | non=>cases h2
 | @dc _ _ a kvs ds ho hH q=>
  have h2':lookD key (ns.map .str) ds=some r:=h2
  obtain⟨w,w1,w2⟩:=look_dct hH.2 q h2'
  exact⟨.ref a,hv,a,w,rfl,by rw[← w1];exact DGet.k (k:=Sum.inr key) hH.1,k w H (Same.refl H) w2⟩
def dputF (i:Nat)(key:Str)(f:Rho->Option PyData)(ρ:Rho):Option Out:=(f ρ).bind fun x=>(((ρ[i]?).join).bind (dputD key x)).map fun d=>.nx (ρ.set i (some d))
theorem s_dput {i:Nat}{oa:Option Addr}{ns:List Str}{xe:Expr}{pos':Pos}(hu:X.A.units+64<cLine)(hx:PE X xe (tVar i))(he:PV X O e f)(hO:O.s.lookup i=some (.dc oa ns):=by rfl)(nd:ns.Nodup:=by decide +kernel)(hn15:ns.length≤15:=by decide)(hs:swapsWith e (some (.Subscript xe (.Constant (.str key) j kp) pos')) pos.line X.env=pure false:=by rfl) :
  PSv X O (.Assign [.Subscript xe (.Constant (.str key) j kp) pos'] e pos) (dputF i key f):=(ps_dput (units1 hu) hx pe_str he hs).imp fun D σ H zpat=>by
 obtain⟨hid,H0,ρ,ow,o,E,hf,k⟩:=zpat
 obtain⟨x,g1,hf⟩:=bind_some hf
 obtain⟨d',g2,rfl⟩:=map_some hf
 obtain⟨d,g3,g4⟩:=bind_some g2
 refine⟨hid,H0,ρ,ow,x,E,g1,fun v H' s Dv=>?_⟩
 have E1:=E.mono s
 obtain⟨A,EA⟩:=E1.own
 have hj:=join_some g3
 obtain⟨w,hw,D0⟩:=EA.1 i _ d hO hj
 have hl:=(List.getElem?_eq_some_iff.mp hj).1
 generalize hA:A i=Ai at D0
 cases D0 with
 | non=>cases g4
 | @dc _ _ a kvs ds ho hH q=>
  obtain⟨ds',g5,rfl⟩:=map_some (show (putS key x (ns.map .str) ds).map (mkDct (ns.map .str))=some d' from g4)
  obtain⟨p1,p2⟩:=putK_dct Dv nd hH.2 q g5
  have hao:a∈ow:=EA.2.2 i a (by rw[hA];exact List.mem_singleton.mpr rfl)
  have hlen:kvs.length<sizeLine:=by
   have e:=congrArg List.length hH.2
   rw[List.length_map,List.length_map] at e
   rw[e]
   exact Nat.lt_of_le_of_lt hn15 (by decide)
  refine⟨.ref a,hw,a,_,rfl,DPut.k (k:=Sum.inr key) hH.1 hlen,?_⟩
  have eu:uni hid ([a]++restO ow (A i))=uni hid ow:=by
   funext b
   apply propext
   unfold uni
   rw[List.mem_append,mem_restO,hA,List.mem_singleton]
   constructor
   ·rintro (z | z | z)
    ·exact .inl z
    ·exact .inr (by rw[z];exact hao)
    ·exact .inr z.1
   ·rintro (z | z)
    ·exact .inl z
    ·by_cases y:b=a
     ·exact .inr (.inl y)
     ·exact .inr (.inr ⟨z,fun w=>y w⟩)
  obtain⟨e1,e2⟩:=E1.tree EA (H2:=upd H' a (.dK (putK kvs (Sum.inr key) v))) hO hl hw (fun b o hb z=>by rw[upd_ne fun y=>hb (by rw[hA,y];exact List.mem_singleton.mpr rfl)];exact z) (fun p hp=>.inl (by rw[hA];exact hp)) (as2:=[a]) (d2:=mkDct (ns.map .str) ds') (by
   rw[eu,del_upd (uni_in hao)]
   exact .dc ho ⟨upd_same,p1⟩ p2)
  exact k σ _ _ ((del_mono s _).trans e2) e1
end
section
variable {X:Cx}{O:Ow}{pos:Pos}
theorem putK_app {kvs:List (Key×V)}{k:Key}{v:V}(h:k∉kvs.map (·.1)):putK kvs k v=kvs++[(k,v)]:=by
 unfold putK
 rw[if_neg]
 rw[List.any_eq_true]
 rintro⟨kv,h1,h2⟩
 exact h (List.mem_map.mpr ⟨kv,h1,of_decide_eq_true h2⟩)
theorem mergeK_app:∀ (kvs acc:List (Key×V)),(kvs.map (·.1)).Nodup->(∀ k∈kvs.map (·.1),k∉acc.map (·.1))->mergeK acc kvs=acc++kvs
 | [],acc,_,_=>(List.append_nil acc).symm
 | (k,v)::r,acc,nd,dj=>by
  rw[List.map_cons] at nd dj
  obtain⟨n1,n2⟩:=List.nodup_cons.mp nd
  show mergeK (putK acc k v) r=_
  rw[putK_app (dj k List.mem_cons_self),mergeK_app r (acc++[(k,v)]) n2 fun k' h' z=>?_,List.append_assoc]
  ·rfl
  ·rw[List.map_append] at z
   rcases List.mem_append.mp z with z | z
   ·exact dj k' (List.mem_cons_of_mem _ h') z
   ·have z':k'=k:=List.mem_singleton.mp z
    exact n1 (z'▸h')
inductive DKv (K:PySem.W.Frag)(O:Ow)(ks:List Str)(fs:Rho->Option (List PyData))(σ:St)(H:Hp)(Q:List (V×V)->Hp->Prop):Prop
 | mk (hid:Addr->Prop) (H0:Hp) (ρ:Rho) (ow:List Addr) (ds:List PyData) (E:EnvOk K O hid H0 σ H ρ ow) (hf:fs ρ=some ds) (k:∀ (kvs:List (Key×V)) H',Same H H'->kvs.map (·.1)=ks.map Sum.inr->DenL K (del H' (uni hid ow)) (kvs.map (·.2)) ds->Q (kvs.map fun kv=>(kV kv.1,kv.2)) H'):DKv K O ks fs σ H Q
def PDv (X:Cx)(O:Ow)(pos:Pos)(keys:List (Option Expr))(values:List Expr)(ks:List Str)(fs:Rho->Option (List PyData)):Prop:=∃ trs,PPs X pos keys values trs∧∀ σ H Q,DKv X.K O ks fs σ H Q->tPairs trs σ H Q
theorem dv_nil:PDv X O pos [] [] [] (fun _=>some []):=⟨[],pps_nil,fun σ H Q z=>by
 obtain⟨hid,H0,ρ,ow,ds,E,hf,k⟩:=z
 obtain rfl:=Option.some.inj hf
 exact k [] H (Same.refl H) rfl .nil⟩
theorem dv_cons {key:Str}{j:Nat}{kp:Pos}{v:Expr}{f:Rho->Option PyData}{keys:List (Option Expr)}{values:List Expr}{ks:List Str}{fs:Rho->Option (List PyData)}(hv:PV X O v f)(hr:PDv X O pos keys values ks fs):PDv X O pos (some (.Constant (.str key) j kp)::keys) (v::values) (key::ks) (fun ρ=>consD (f ρ) (fs ρ)):=by
 obtain⟨trs,h1,h2⟩:=hr
 refine⟨_,pps_cons pe_str hv h1,fun σ H Q z=>?_⟩
 obtain⟨hid,H0,ρ,ow,ds,E,hf,k⟩:=z
 obtain⟨d,g1,hf⟩:=bind_some hf
 obtain⟨r,g2,rfl⟩:=map_some hf
 refine⟨hid,H0,ρ,ow,d,E,g1,fun w H1 s1 D1=>h2 σ H1 _ ⟨hid,H0,ρ,ow,r,E.mono s1,g2,fun kvs H2 s2 e2 D2=>?_⟩⟩
 exact k ((Sum.inr key,w)::kvs) H2 (s1.trans s2) (by rw[List.map_cons,List.map_cons,e2]) (.cons (D1.mono (del_mono s2 _)) D2)
theorem ft_disp {keys:List (Option Expr)}{values:List Expr}{ks:List Str}{fs:Rho->Option (List PyData)}(h:PDv X O pos keys values ks fs)(nd:ks.Nodup:=by decide +kernel)(h15:ks.length≤15:=by decide)(hall:keys.all (·.isSome)=true:=by rfl)(hl:keys.length=values.length:=by rfl)(h0:keys≠[]:=by simp)(hk:keys.length≤15:=by decide):PFt X O (.dc none ks) (.Dict keys values pos) (fun ρ=>(fs ρ).map (mkDct (ks.map .str))):=by
 obtain⟨trs,h1,h2⟩:=h
 refine (pe_disp h1 hall hl h0 hk).imp fun σ H Q zpat=>?_
 obtain⟨hid,H0,ρ,ow,r,E,hf,k⟩:=zpat
 obtain⟨ds,g1,rfl⟩:=map_some hf
 intro p hp
 have E1:=E.hide (same_new (o:=.dK []) hp) [p] (fun q hq=>⟨.d [],by rw[List.mem_singleton.mp hq];exact upd_same⟩)
 refine h2 σ _ _ ⟨_,H0,ρ,ow,ds,E1,g1,fun kvs H2 s2 e2 D2=>⟨s2 _ _ upd_same,kvs,rfl,?_,?_⟩⟩
 ·have e:=congrArg List.length e2
  rw[List.length_map,List.length_map] at e
  omega
 ·have hnd:(kvs.map (·.1)).Nodup:=by
   rw[e2]
   exact nd.map Sum.inr fun a b hab z=>hab (Sum.inr.inj z)
  rw[mergeK_app kvs [] hnd (fun k _ z=>by cases z),List.nil_append]
  have sm:Same H (upd H2 p (.dK kvs)):=fun b o z=>by
   rw[upd_ne (ne_of_none z hp)]
   exact s2 _ _ (by rw[upd_ne (ne_of_none z hp)];exact z)
  refine k (.ref p) [p] _ sm (fun q hq=>by rw[List.mem_singleton.mp hq];exact hp) (.dc (fun b z=>nomatch z) ⟨upd_same,e2⟩ (D2.mono fun b o z=>?_))
  by_cases hb:uni (hid2 hid H [p]) ow b
  ·rw[del_in hb] at z;cases z
  ·rw[del_out hb] at z
   have hbp:b≠p:=fun y=>hb (.inl (.inr ⟨by rw[y];exact List.mem_singleton.mpr rfl,by rw[y];exact hp⟩))
   rw[del_out fun y=>?_,upd_ne hbp]
   ·exact z
   ·rcases y with y | y
    ·exact hb (.inl (.inl y))
    ·rcases List.mem_cons.mp y with y | y
     ·exact hbp y
     ·exact hb (.inr y)
end
end L2
namespace L2
variable [Reg]
def dkD (d:PyData):Option (List PyData):=if isDct d=true then some (dctVs d) else none
theorem DenO.dcTo {K:PySem.W.Frag}{H C:Hp}{oa ob:Option Addr}{ns:List Str}{a:Addr}{d:PyData}{as:List Addr}(h:DenO K H C (.dc oa ns) (.ref a) d as)(ho:∀ b,ob=some b->b=a):DenO K H C (.dc ob ns) (.ref a) d as:=by
 cases h with
 | dc h0 hH q=>exact .dc ho hH q
inductive SpDc (K:PySem.W.Frag)(ns:List Str)(F:List PyData->Option (PyData×PyData))(vs:List V)(H:Hp)(Q:VK):Prop
 | mk (hid:Addr->Prop) (a:Addr) (as:List Addr) (us:List V) (d0:PyData) (ds:List PyData) (r:PyData×PyData) (e:vs=.ref a::us) (h1:∀ b,hid b->∃ vs:OwO,H b=some vs.ho) (h2:∀ p∈as,¬ hid p) (D0:DenO K H (del H (uni hid as)) (.dc none ns) (.ref a) d0 as) (Du:DenL K (del H (uni hid as)) us ds) (hF:F (d0::ds)=some r)
  (k:∀ v as' H',(∀ b o,b∉as->H b=some o->H' b=some o)->(∀ p∈as',p∈as∨H p=none)->DenO K H' (del H' (uni hid as')) (.dc none ns) (.ref a) r.2 as'->Den K (del H' (uni hid as')) v r.1->Q v H'):SpDc K ns F vs H Q
def spDc (K:PySem.W.Frag)(ns:List Str)(F:List PyData->Option (PyData×PyData)):Sp:=fun vs H Q _=>SpDc K ns F vs H Q
inductive ThenDc (K:PySem.W.Frag)(a:Addr)(ns:List Str)(hid:Addr->Prop)(H0:Hp)(D:Ends)(o:Out):Prop
 | mk (d s:PyData) (e:o=.rt (.tuple [d,s])) (k:∀ v as H',Same H0 H'->(∀ p∈as,H0 p=none)->DenO K H' (del H' (uni hid as)) (.dc none ns) (.ref a) s as->Den K (del H' (uni hid as)) v d->D.rt v H'∧(v=.non->∀ σ',D.nx σ' H')):ThenDc K a ns hid H0 D o
def tDc (K:PySem.W.Frag)(O:Ow)(a:Addr)(ns:List Str)(F:Rho->Option Out):TS:=fun D σ H=>At5 K O F σ H fun hid H0 ρ ow o=>ThenDc K a ns hid H0 D o
abbrev PSDc (X:Cx)(O:Ow)(a:Addr)(ns:List Str)(sts:List Stmt)(F:Rho->Option Out):Prop:=PSs X sts (tDc X.K O a ns F)
def selfOD (d:PyData)(ρ:Rho):Option Out:=((ρ[0]?).join).bind fun s=>(dkD s).map fun _=>.rt (.tuple [d,s])
section
variable {X:Cx}{O:Ow}{a:Addr}{ns:List Str}{st:Stmt}{rest:List Stmt}{F G:Rho->Option Out}{e:Expr}{f:Rho->Option PyData}{pos:Pos}
theorem ss_consDc (h1:PSv X O st F)(h2:PSDc X O a ns rest G):PSDc X O a ns (st::rest) (seqI F G):=(pss_cons h1 h2).imp fun D σ H zpat=>by
 obtain⟨hid,H0,ρ,ow,o,E,hf,d,s,rfl,k⟩:=zpat
 obtain⟨o1,g1,g2⟩:=bind_some hf
 refine⟨hid,H0,ρ,ow,o1,E,g1,?_⟩
 cases o1 with
 | nx ρ1=>exact fun σ' H' ow' s' E'=>⟨hid,H0,ρ1,ow',_,E',g2,d,s,rfl,k⟩
 | rt d=>exact L2.no_ns g2
 | bk ρ1=>exact L2.no_ns g2
 | ct ρ1=>exact L2.no_ns g2
theorem EnvOk.selfAtD {K:PySem.W.Frag}{hid:Addr->Prop}{H0 H:Hp}{σ:St}{ρ:Rho}{ow:List Addr}(E:EnvOk K O hid H0 σ H ρ ow){d s:PyData}{o:Out}(hO:O.s.lookup 0=some (.dc (some a) ns))(h:selfOD d ρ=some o) :
  ∃ s as,o=.rt (.tuple [d,s])∧(∀ p∈as,p∈ow)∧DenO K H (del H (uni hid ow)) (.dc none ns) (.ref a) s as:=by
 obtain⟨s,h1,h⟩:=bind_some h
 obtain⟨ds,h2,rfl⟩:=map_some h
 obtain⟨A,EA⟩:=E.own
 obtain⟨v,hv,D⟩:=EA.1 0 _ s hO (join_some h1)
 have a3:=EA.2.2 0
 generalize A 0=A0 at D a3
 cases D with
 | non=>cases h2
 | dc ho hH q=>
  have:=ho a rfl
  subst this
  exact⟨_,_,rfl,a3,.dc (fun b z=>by cases z) hH q⟩
def retDc (f:Rho->Option PyData)(ρ:Rho):Option Out:=(f ρ).bind fun d=>selfOD d ρ
theorem ss_retDc (h:PV X O e f)(hO:O.s.lookup 0=some (.dc (some a) ns):=by rfl):PSDc X O a ns [.Return (some e) pos] (retDc f):=(pss_one (ps_ret h)).imp fun D σ H zpat=>by
 obtain⟨hid,H0,ρ,ow,o,E,hf,d,s,e1,k⟩:=zpat
 obtain⟨d',g1,g2⟩:=bind_some hf
 obtain⟨s',as,e2,ha,D0⟩:=E.selfAtD (s:=s) hO g2
 rw[e2] at e1
 injection e1 with e1
 injection e1 with e1
 injection e1 with e1 e3
 injection e3 with e3 _
 subst e1 e3
 refine⟨hid,H0,ρ,ow,d',E,g1,fun v H' sm Dv=>(k v as H' (E.baseS.trans sm) (fun p hp=>E.ow0 (ha p hp)) (D0.mono (fun b o z=>?_) fun p _ o z=>sm p o z) (Dv.mono (del_sub fun b z=>z.imp id fun y=>ha b y))).1⟩
 exact (del_mono sm _).trans (del_sub fun b z=>z.imp id fun y=>ha b y) b o z
theorem ss_endDc (hO:O.s.lookup 0=some (.dc (some a) ns):=by rfl):PSDc X O a ns [] (selfOD .none):=pss_nil.imp fun D σ H zpat=>by
 obtain⟨hid,H0,ρ,ow,o,E,hf,d,s,e1,k⟩:=zpat
 obtain⟨s',as,e2,ha,D0⟩:=E.selfAtD (s:=s) hO hf
 rw[e2] at e1
 injection e1 with e1
 injection e1 with e1
 injection e1 with e1 e3
 injection e3 with e3 _
 subst e1 e3
 exact (k .non as H E.baseS (fun p hp=>E.ow0 (ha p hp)) (D0.mono (del_sub fun b z=>z.imp id fun y=>ha b y) fun p _ o z=>z) .non).2 rfl σ
end
theorem fn_autoDc {P:Program}{w:World}{K:PySem.W.Frag}{mg:Str->Option Value}{base:Heap}{x qual:Str}{st:Stmt}{f:Addr}{fd:FuncData}{N ps:List Str}{k:Nat}{ns:List Str}(O:Addr->Ow)(F:Fun K x qual st f fd)(S:FnScope N ps (defScope st))
  (h0:∀ a,(O a).s.lookup 0=some (.dc (some a) ns)) (idx:List Nat) (hix:∀ a,(O a).s.map (·.1)=idx) (hO:∀ i∈idx,i=0∨ps.length≤i) (B:Rho->Option Out)
  (hbody:∀ (a:Addr) (cdv:Value),CdOk K f cdv->∀ (A:Around) (outer:List Env) (s:Shared) (H:Hp) (E:XK),Room k (A.deeper (envOfC qual (defScope st) s.heap.objs.size f cdv)) ->
   PSDc (cxOf CX0 P w K mg base N qual (defScope st) f cdv A outer s H E).nox (O a) a ns (defBody st) B) :
  FnOk P w K mg base CX0 (k+1) f fd ps (spDc K ns (runRc ps.length (N.length - ps.length) B)):=by
 refine fn_okC F S (fun vs H Q E h=>?_) (fun cdv hk A outer s H vs Q E hr h=>?_)
 ·obtain⟨hid,a,as,us,d0,ds,r,rfl,h1,h2,D0,Du,hF,q⟩:=h
  have:=(runRc_some hF).1
  rw[List.length_cons] at this ⊢
  rw[Du.length]
  exact this
 ·obtain⟨hid,a,as,us,d0,ds,r,rfl,h1,h2,D0,Du,hF,q⟩:=h
  obtain⟨hl,hB⟩:=runRc_some hF
  refine⟨_,hbody a cdv hk A outer s H E hr,?_⟩
  have get:∀ (i:Nat) (d:PyData),((d0::ds).map some++List.replicate (N.length - ps.length) none)[i]?=some (some d)->(i=0∧d=d0)∨(0<i∧i<ps.length∧∃ v,(start N (.ref a::us))[i]?=some (some v)∧Den K (del H (uni hid as)) v d):=fun i d e=>by
   cases i with
   | zero=>exact .inl ⟨rfl,(Option.some.inj (Option.some.inj e)).symm⟩
   | succ i=>
    refine .inr ⟨Nat.zero_lt_succ _,?_⟩
    rw[List.map_cons,List.cons_append,List.getElem?_cons_succ] at e
    by_cases hi:i<ds.length
    ·rw[List.getElem?_append_left (by simpa using hi),List.getElem?_map] at e
     obtain⟨d',e1,e2⟩:=Option.map_eq_some_iff.mp e
     obtain rfl:=Option.some.inj e2
     obtain⟨v,e3,e4⟩:=Du.get e1
     refine⟨by rw[← hl,List.length_cons];omega,v,?_,e4⟩
     unfold start
     rw[List.map_cons,List.cons_append,List.getElem?_cons_succ,List.getElem?_append_left (by rw[List.length_map,Du.length];exact hi),List.getElem?_map,e3]
     rfl
    ·rw[List.getElem?_append_right (by simpa using Nat.le_of_not_lt hi),List.getElem?_replicate] at e
     split at e <;> cases e
  have E0:EnvOk K (O a) hid (del H fun b=>b∈as) (start N (.ref a::us)) H ((d0::ds).map some++List.replicate (N.length - ps.length) none) as:=by
   refine⟨by unfold start;have:=Du.length;simp[this,← hl],fun b o e=>e,fun i d hi e=>?_,⟨fun i=>if i=0 then as else [],fun i t d hi e=>?_,fun i m p him hp hm=>?_,fun i p hp=>?_⟩,fun m hm=>⟨D0.lists m hm,h2 m hm⟩,h1,fun z=>?_⟩
   ·rcases get i d e with ⟨z,_⟩ | ⟨_,_,v,e1,e2⟩
    ·rw[z,h0 a] at hi;cases hi
    ·exact⟨v,e1,e2⟩
   ·rcases hO i (hix a▸lookTy_mem hi) with z | z
    ·subst z
     rw[h0 a] at hi
     obtain rfl:=Option.some.inj hi
     rcases get 0 d e with ⟨_,rfl⟩ | ⟨z,_⟩
     ·refine⟨.ref a,rfl,?_⟩
      dsimp only
      rw[if_pos rfl]
      exact D0.dcTo fun b z=>(Option.some.inj z).symm
     ·cases z
    ·rcases get i d e with ⟨y,_⟩ | ⟨_,y,_⟩
     ·have:0<ps.length:=by rw[← hl,List.length_cons];omega
      omega
     ·omega
   ·dsimp only at hp hm
    split at hp
    ·split at hm
     ·subst_vars;exact him rfl
     ·cases hm
    ·cases hp
   ·dsimp only at hp
    split at hp
    ·exact hp
    ·cases hp
   ·have:=h0 a
    rw[z] at this
    exact L2.no_ns this
  refine⟨hid,_,_,as,_,E0,hB,r.1,r.2,rfl,fun v as' H' s' n D' Dv=>?_⟩
  have qq:Q v H':=q v as' H' (fun b o hb z=>s' b o (by rw[del_out hb];exact z)) (fun p hp=>?_) D' Dv
  ·exact⟨qq,fun z σ'=>by rw[z] at qq;exact qq⟩
  ·have z:=n p hp
   by_cases hb:p∈as
   ·exact .inl hb
   ·rw[del_out hb] at z
    exact .inr z
section
variable {X:Cx}{O:Ow}{i k:Nat}{ns:List Str}{oa:Option Addr}{F:List PyData->Option (PyData×PyData)}
theorem EnvOk.lendDc {K:PySem.W.Frag}{hid:Addr->Prop}{H0 H:Hp}{σ:St}{ρ:Rho}{ow:List Addr}(E:EnvOk K O hid H0 σ H ρ ow){d0:PyData}{ds:List PyData}{us:List V}{r:PyData×PyData}{D:Ends}{b:Addr}(hO:O.s.lookup i=some (.dc oa ns))(hρ:(ρ[i]?).join=some d0)(hd:(dkD d0).isSome=true)(hb:σ[i]?=some (some (.ref b)))(Du:DenL K (del H (uni hid ow)) us ds)(hF:F (d0::ds)=some r){Q:VK}
  (k:∀ v H' ow',Same (del H (uni hid ow)) (del H' (uni hid ow'))->EnvOk K O hid H0 σ H' (ρ.set i (some r.2)) ow'->Q v H'):SpDc K ns F (.ref b::us) H Q:=by
 obtain⟨A,EA⟩:=E.own
 have hj:=join_some hρ
 obtain⟨v,hv,D0⟩:=EA.1 i _ d0 hO hj
 rw[hb] at hv
 obtain rfl:=Option.some.inj (Option.some.inj hv)
 have a3:=EA.2.2 i
 have ho:∀ c,oa=some c->c=b:=by
  generalize A i=Ai at D0
  cases D0 with
  | dc ho _ _=>exact ho
 have nh:∀ q,hid q->q∉A i:=fun q z y=>(E.isl q (a3 q y)).2 z
 have eu:uni (fun q=>uni hid ow q∧q∉A i) (A i)=uni hid ow:=by
  funext q
  apply propext
  constructor
  ·rintro (z | z)
   ·exact z.1
   ·exact .inr (a3 q z)
  ·intro z
   by_cases y:q∈A i
   ·exact .inr y
   ·exact .inl ⟨z,y⟩
 refine⟨fun q=>uni hid ow q∧q∉A i,b,A i,us,d0,ds,r,rfl,fun q z=>E.uniL q z.1,fun q z y=>y.2 z,by rw[eu];exact D0.dcTo (fun c z=>nomatch z),by rw[eu];exact Du,hF,fun v as' H' s n D' Dv=>?_⟩
 have eu2:uni (fun q=>uni hid ow q∧q∉A i) as'=uni hid (as'++restO ow (A i)):=by
  funext q
  apply propext
  unfold uni
  simp only[List.mem_append,mem_restO]
  constructor
  ·rintro (⟨z | z,y⟩ | z)
   ·exact .inl z
   ·exact .inr (.inr ⟨z,y⟩)
   ·exact .inr (.inl z)
  ·rintro (z | z | ⟨z,y⟩)
   ·exact .inl ⟨.inl z,nh q z⟩
   ·exact .inr z
   ·exact .inl ⟨.inr z,y⟩
 rw[eu2] at D'
 obtain⟨e1,e2⟩:=E.tree EA hO (List.getElem?_eq_some_iff.mp hj).1 hb s n (D'.dcTo ho)
 exact k v H' _ e2 e1
end
end L2
namespace L2
variable [Reg]
def scD:PyData->Bool
 | .none=>true
 | .bool _=>true
 | .int _=>true
 | .str _=>true
 | _=>false
theorem den_sc {K:PySem.W.Frag}{H:Hp}{v:V}{d:PyData}(h:Den K H v d)(q:scD d=true):Sc v d:=by
 cases h with
 | non=>exact .non
 | bl b=>exact .bl b
 | int i=>exact .int i
 | str x=>exact .str x
 | _=>cases q
theorem denL_sc {K:PySem.W.Frag}{H G:Hp}:∀ {vs:List V} {ds:List PyData},DenL K H vs ds->ds.all scD=true->DenL K G vs ds
 | [],[],_,_=>.nil
 | _::_,_::_,.cons h r,q=>by
  rw[List.all_cons,Bool.and_eq_true] at q
  exact .cons (den_sc h q.1).den (denL_sc r q.2)
section
variable {X:Cx}{O:Ow}{e a b o:Expr}{es:List Expr}{f fa fb fo:Rho->Option PyData}{fs:Rho->Option (List PyData)}{k:Nat}{m x cls:Str}{ps:List Str}{T:Ty}{Ts:List Ty}{U:List Nat}{F:List PyData->Option PyData}{p pos apos cpos:Pos}{pl:Sem Bool}
theorem PFr.nw (h:PFr X O e fs):PFt X O .nw e (fun ρ=>((fs ρ).filter (·.all scD)).map .list):=h.imp fun σ H Q zpat=>by
 obtain⟨hid,H0,ρ,ow,d,E,hf,k⟩:=zpat
 obtain⟨ds,h1,rfl⟩:=map_some hf
 obtain⟨h1,h2⟩:=Option.filter_eq_some_iff.mp h1
 refine⟨hid,H0,ρ,ow,ds,E,h1,fun l vs H' s n q D=>k (.ref l) [l] H' s (fun p hp=>by rw[List.mem_singleton.mp hp];exact n) (.nw (fun p hp=>⟨.l vs,by rw[List.mem_singleton.mp hp];exact q⟩) (.lst (SqL.of ?_) (denL_sc D h2)))⟩
 rw[del_out fun z=>z (List.mem_singleton.mpr rfl)]
 exact q
theorem PR.nw (h:PR X O e f):PFt X O .nw e (fun ρ=>(f ρ).filter scD):=h.imp fun σ H Q zpat=>by
 obtain⟨hid,H0,ρ,ow,d,E,hf,k⟩:=zpat
 obtain⟨h1,h2⟩:=Option.filter_eq_some_iff.mp hf
 exact⟨hid,H0,ρ,ow,d,E,h1,fun v H' s D=>k v [] H' s (fun p hp=>by cases hp) (.nw (fun p hp=>by cases hp) (den_sc D h2).den)⟩
theorem ft_if {t:Expr}{ga:Rho->Option Bool}(ht:PTv X O t ga)(ha:PFt X O T a fa)(hb:PFt X O T b fb):PFt X O T (.IfExp t a b pos) (fun ρ=>condO (ga ρ) (fa ρ) (fb ρ)):=
 (pe_ifExp ht ha hb).imp fun σ H Q zpat=>by
  obtain⟨hid,H0,ρ,ow,k,E,hf,q⟩:=zpat
  obtain⟨c,h1,h2⟩:=bind_some hf
  refine⟨hid,H0,ρ,ow,c,E,h1,fun H1 s1=>?_⟩
  cases c with
  | true=>rw[if_pos rfl] at h2 ⊢;exact⟨hid,H0,ρ,ow,k,E.mono s1,h2,fun w as H2 s2 n2 D2=>q w as H2 (s1.trans s2) (fun p hp=>s1.free (n2 p hp)) D2⟩
  | false=>rw[if_neg Bool.false_ne_true] at h2 ⊢;exact⟨hid,H0,ρ,ow,k,E.mono s1,h2,fun w as H2 s2 n2 D2=>q w as H2 (s1.trans s2) (fun p hp=>s1.free (n2 p hp)) D2⟩
theorem ft_callM0 (G:DefM X.prog X.w X.K X.mg X.base k cls m ps T F)(hr:Room k X.A)(ho:PV X O o fo)
  (ht:eval (.Call (.Attribute o m apos) [] [] cpos) X.env=(do
   let ov ← eval o X.env
   standAt apos.atName
   let (f,first) ← holding [ov] (getMethod ov m pl)
   callWith cpos f first (backTo cpos (starEach [] X.env)) (backToKw cpos (keywordEach [] X.env))):=by rfl) :
  PFt X O T (.Call (.Attribute o m apos) [] [] cpos) (callM cls m F fo fun _=>some []):=by
 obtain⟨C,f,fd,c,hm',g1,g2,g3⟩:=G
 exact (pe_meth0 (pl:=pl) ho c hm' g1 hr g3 .nil pass0 ht).imp fun σ H Q zpat=>by
  obtain⟨hid,H0,ρ,ow,r,E,hf,q⟩:=zpat
  obtain⟨d,e1,hf⟩:=bind_some hf
  split at hf
  case isFalse=>cases hf
  rename_i hob
  obtain⟨ds,e2,e3⟩:=bind_some hf
  obtain rfl:=Option.some.inj e2
  refine⟨hid,H0,ρ,ow,d,E,e1,fun v H1 s1 D1=>?_⟩
  obtain⟨b,C',dx,fs',rfl,h1,h2,h3⟩:=isObD_some D1 hob
  rw[g2] at h2
  obtain rfl:C=C':=by injection h2 with z;injection z with z;injection z
  refine⟨b,dx,fs',rfl,del_same _ _ _ _ h1,h3,?_⟩
  refine⟨uni hid ow,[d],r,(E.mono s1).uniL,.cons D1 .nil,e3,fun v as H3 s3 n3 D3=>q v as H3 (s1.trans s3) (fun p hp=>s1.free (n3 p hp)) (D3.mono (del_sub fun b z=>?_) fun p _ o e=>e)⟩
  rcases z with z | z
  ·exact .inl (.inl z)
  ·rcases List.mem_append.mp z with z | z
   ·exact .inr z
   ·exact .inl (.inr z)
end
end L2
namespace L2
variable [Reg]
theorem EnvOk.owEq {K:PySem.W.Frag}{O:Ow}{hid:Addr->Prop}{H0 H:Hp}{σ:St}{ρ:Rho}{ow ow':List Addr}(E:EnvOk K O hid H0 σ H ρ ow)(h:∀ b,b∈ow↔b∈ow'):EnvOk K O hid H0 σ H ρ ow':=by
 have eu:uni hid ow=uni hid ow':=by
  funext b
  unfold uni
  rw[h b]
 have ed:(fun b=>b∈ow)=(fun b=>b∈ow'):=funext fun b=>propext (h b)
 obtain⟨A,a1,a2,a3⟩:=E.own
 refine⟨E.len,by have:=E.base;rwa [ed] at this,fun i d hi q=>by rw[← eu];exact E.val i d hi q,⟨A,fun i t d hi q=>by rw[← eu];exact a1 i t d hi q,a2,fun i p hp=>(h p).mp (a3 i p hp)⟩,fun l hl=>E.isl l ((h l).mpr hl),E.ishL,fun z=>?_⟩
 have:=E.emp z
 subst this
 cases ow' with
 | nil=>rfl
 | cons b r=>exact absurd ((h b).mpr List.mem_cons_self) (by simp)
def DefDc (P:Program)(w:World)(K:PySem.W.Frag)(mg:Str->Option Value)(base:Heap)(k:Nat)(x:Str)(ps:List Str)(ns:List Str)(F:List PyData->Option (PyData×PyData)):Prop:=
 ∃ f fd,FnOk P w K mg base CX0 k f fd ps (spDc K ns F)∧mg x=some (.ref f)∧PySem.W.keepIn K (.ref f)=true∧Binds K fd ps []∧PySem.W.nsIn K mainGlobals x=some (some (.ref f))
theorem FnAt.okDc {P:Program}{w:World}{K:PySem.W.Frag}{h:Heap}{mg:Str->Option Value}{base:Heap}{x:Str}{st:Stmt}{k:Nat}{ps ns:List Str}{F:List PyData->Option (PyData×PyData)}(d:FnAt K x st)(X:K.In h)(G:h.Ns mainGlobals mg)
  (hb:∀ (kV doc pm:Value) (an:Option Addr) (cdv ct:Value) (us:List Value),us.length=ps.length->bindArgs (PySem.W.fnOf x x (defArgs st) (defBody st) (defScope st) .none kV doc pm an cdv ct) ⟨us,[]⟩=pure (ps.zip us))
  (ok:∀ f fd,PySem.W.nsIn K mainGlobals x=some (some (.ref f))->Fun K x x st f fd->FnOk P w K mg base CX0 k f fd ps (spDc K ns F)):DefDc P w K mg base k x ps ns F:=by
 cases d with
 | mk f fd a D=>exact⟨f,fd,ok f fd a D,PySem.W.mg_of X G a,D.kp,D.binds hb,a⟩
theorem dc_one {K:PySem.W.Frag}{H C:Hp}{oa:Option Addr}{ns:List Str}{v:V}{b:Addr}{d:PyData}{as:List Addr}(h:DenO K H C (.dc oa ns) v d as)(e:v=.ref b):as=[b]:=by
 cases h with
 | non=>cases e
 | dc _ _ _=>injection e with e;rw[e]
inductive IxD (K:PySem.W.Frag)(O:Ow)(hid:Addr->Prop)(H0:Hp)(σ:St)(H:Hp)(ρ:Rho)(ow:List Addr)(i j:Nat)(ns:List Str)(ls:List PyData)(d0:PyData):Prop
 | mk (a b:Addr) (vs:List V) (hv:σ[i]?=some (some (.ref a))) (hH:H a=some (.lst vs)) (hj:vs[j]?=some (.ref b)) (hlen:vs.length=ls.length)
  (lend:∀ {F:List PyData->Option (PyData×PyData)} {us:List V} {ds:List PyData} {r:PyData×PyData} {Q:VK},DenL K (del H (uni hid ow)) us ds->F (d0::ds)=some r ->
   (∀ v H',Same (del H (uni hid ow)) (del H' (uni hid ow))->EnvOk K O hid H0 σ H' (ρ.set i (some (.list (ls.set j r.2)))) ow->Den K (del H' (uni hid ow)) v r.1->Q v H')->SpDc K ns F (.ref b::us) H Q):IxD K O hid H0 σ H ρ ow i j ns ls d0
theorem EnvOk.ixD {K:PySem.W.Frag}{O:Ow}{hid:Addr->Prop}{H0 H:Hp}{σ:St}{ρ:Rho}{ow:List Addr}(E:EnvOk K O hid H0 σ H ρ ow){i j:Nat}{ns:List Str}{ls:List PyData}{d0:PyData}(hO:O.s.lookup i=some (.lst (.dc none ns)))(hρ:(ρ[i]?).join.bind isL=some ls)(hj:ls[j]?=some d0)(hd:(dkD d0).isSome=true):IxD K O hid H0 σ H ρ ow i j ns ls d0:=by
 obtain⟨d,h1,h2⟩:=bind_some hρ
 have h1:=join_some h1
 obtain⟨A,EA⟩:=E.own
 obtain⟨v,hv,D⟩:=EA.1 i _ d hO h1
 have hl:=(List.getElem?_eq_some_iff.mp h1).1
 generalize hA:A i=Ai at D
 cases D with
 | non=>cases h2
 | @lst _ a vs ds' as hH q na=>
  obtain rfl:ds'=ls:=Option.some.inj h2
  obtain⟨w,bs,cs,hw,D0,sp,dj,put⟩:=q.put hj
  cases D0 with
  | non=>cases hd
  | @dc _ _ b kvs dsv ho hHb qd=>
   have a3:∀ p,p=a∨p=b∨p∈cs->p∈ow:=fun p z=>EA.2.2 i p (by
    rw[hA]
    rcases z with z | z | z
    ·rw[z];exact List.mem_cons_self
    ·exact List.mem_cons_of_mem _ ((sp p).mpr (.inl (by rw[z];exact List.mem_singleton.mpr rfl)))
    ·exact List.mem_cons_of_mem _ ((sp p).mpr (.inr z)))
   have nab:a≠b:=fun z=>na ((sp a).mpr (.inl (by rw[z];exact List.mem_singleton.mpr rfl)))
   have nac:a∉cs:=fun z=>na ((sp a).mpr (.inr z))
   have nbc:b∉cs:=dj b (List.mem_singleton.mpr rfl)
   have hbo:b∈ow:=a3 b (.inr (.inl rfl))
   have eu:uni (fun p=>uni hid ow p∧p≠b) [b]=uni hid ow:=by
    funext p
    apply propext
    constructor
    ·rintro (z | z)
     ·exact z.1
     ·rw[List.mem_singleton.mp z];exact .inr hbo
    ·intro z
     by_cases y:p=b
     ·exact .inr (by rw[y];exact List.mem_singleton.mpr rfl)
     ·exact .inl ⟨z,y⟩
   refine⟨a,b,vs,hv,hH,hw,q.length,fun {F us ds r Q} Du hF k=>?_⟩
   refine⟨fun p=>uni hid ow p∧p≠b,b,[b],us,_,ds,r,rfl,fun p z=>E.uniL p z.1,fun p hp z=>z.2 (List.mem_singleton.mp hp),by rw[eu];exact .dc (fun _ z=>nomatch z) hHb qd,by rw[eu];exact Du,hF,fun v as' H' s n D' Dv=>?_⟩
   obtain rfl:as'=[b]:=dc_one D' rfl
   rw[eu] at D' Dv
   have sm:Same (del H (uni hid ow)) (del H' (uni hid ow)):=fun p o e=>by
    by_cases hp:uni hid ow p
    ·rw[del_in hp] at e;cases e
    ·rw[del_out hp] at e ⊢
     exact s p o (fun z=>hp (.inr (by rw[List.mem_singleton.mp z];exact hbo))) e
   obtain⟨as2,q1,q2⟩:=put H' _ r.2 [b] sm (fun p hp o e=>s p o (fun z=>nbc (by rw[← List.mem_singleton.mp z];exact hp)) e) D' fun p hp z=>nbc (by rw[← List.mem_singleton.mp hp];exact z)
   have hmem:∀ p,p∈a::as2↔p∈A i:=fun p=>by
    rw[hA,List.mem_cons,List.mem_cons,q2,sp]
   have eow:∀ p,p∈(a::as2)++restO ow (A i)↔p∈ow:=fun p=>by
    rw[List.mem_append,mem_restO,hmem]
    constructor
    ·rintro (z | z)
     ·exact EA.2.2 i p z
     ·exact z.1
    ·intro z
     by_cases y:p∈A i
     ·exact .inl y
     ·exact .inr ⟨z,y⟩
   have eu2:uni hid ((a::as2)++restO ow (A i))=uni hid ow:=by
    funext p
    unfold uni
    rw[eow p]
   have na2:a∉as2:=fun z=>by
    rcases (q2 a).mp z with z | z
    ·exact nab (List.mem_singleton.mp z)
    ·exact nac z
   obtain⟨e1,e2⟩:=E.tree EA hO hl hv (as2:=a::as2) (d2:=.list (ds'.set j r.2)) (H2:=H') (fun p o z e=>s p o (fun y=>z (by rw[hA];exact List.mem_cons_of_mem _ ((sp p).mpr (.inl y)))) e) (fun p hp=>.inl ((hmem p).mp hp)) (by
    rw[eu2]
    exact .lst (s a _ (fun z=>nab (List.mem_singleton.mp z)) hH) q1 na2)
   exact k v H' sm (e1.owEq eow) Dv
section
variable {X:Cx}{O:Ow}{a b:Expr}{es:List Expr}{fa fb:Rho->Option PyData}{fs:Rho->Option (List PyData)}{i k:Nat}{x y:Str}{ps ns:List Str}{F:List PyData->Option (PyData×PyData)}{p p1 p2 pos:Pos}
def callDix (i:Nat)(fb:Rho->Option PyData)(F:List PyData->Option (PyData×PyData))(fs:Rho->Option (List PyData))(ρ:Rho):Option (PyData×Rho):=((ρ[i]?).join.bind isL).bind fun ls=>((fb ρ).bind intO).bind fun k=>(ixN ls.length k).bind fun j=>(ls[j]?).bind fun d0=>(dkD d0).bind fun _=>(fs ρ).bind fun ds=>(F (d0::ds)).map fun r=>(r.1,ρ.set i (some (.list (ls.set j r.2))))
theorem x_callDix (G:DefDc X.prog X.w X.K X.mg X.base k x ps ns F)(hr:Room k X.A)(hg:Gl X x)(hx:PE X (.Name y p1) (tVar i))(hb:PR X O b fb)(ha:PAv X O es fs)(hO:O.s.lookup i=some (.lst (.dc none ns)):=by rfl)(hix:PlainIx b:=by intro _ _;rfl)(hdb:(x==("__debug__":Str))=false:=by decide)
  (he:starEach (.Subscript (.Name y p1) b p2::es) X.env=(false,eval (.Subscript (.Name y p1) b p2) X.env)::starEach es X.env:=by rfl) (hpl:(backTo pos (starEach es X.env)).any (·.1)=false:=by rfl) :
  PX X O (.Call (.Name x p) (.Subscript (.Name y p1) b p2::es) [] pos) (callDix i fb F fs):=by
 obtain⟨f,fd,g1,g2,g3,g4,_⟩:=G
 exact (pe_call g1 hr hg g2 g3 g4 .nil pass0 (pa_cons (pe_ix ix_list hx hb hix) ha he) hdb he hpl).imp fun σ H Q zpat=>by
  obtain⟨hid,H0,ρ,ow,o,E,hf,q⟩:=zpat
  obtain⟨ls,e0,hf⟩:=bind_some hf
  obtain⟨kk,e1,hf⟩:=bind_some hf
  obtain⟨j,e2,hf⟩:=bind_some hf
  obtain⟨d0,e3,hf⟩:=bind_some hf
  obtain⟨dv,e4,hf⟩:=bind_some hf
  obtain⟨ds,e5,hf⟩:=bind_some hf
  obtain⟨r,e6,rfl⟩:=map_some hf
  obtain⟨dk,f1,f2⟩:=bind_some e1
  obtain rfl:=intO_some f2
  have hd:(dkD d0).isSome=true:=by rw[e4];rfl
  obtain⟨a0,b0,vs0,hv,_⟩:=E.ixD hO e0 e3 hd
  refine⟨.ref a0,hv,hid,H0,ρ,ow,.int kk,E,f1,fun z H1 s1 Dk=>?_⟩
  have E1:=E.mono s1
  obtain⟨a1,b1,vs1,hv1,hH1,hj1,hlen1,_⟩:=E1.ixD hO e0 e3 hd
  rw[hv1] at hv
  obtain rfl:a1=a0:=by injection hv with z;injection z with z;injection z
  rw[den_int Dk]
  refine⟨a1,vs1,kk,.ref b1,rfl,rfl,SqL.of hH1,?_,hid,H0,ρ,ow,ds,E1,e5,fun us H2 s2 D2=>?_⟩
  ·unfold atI
   rw[hlen1,e2]
   exact hj1
  dsimp only
  rw[List.append_nil]
  obtain⟨a2,b2,vs2,hv2,hH2,hj2,_,lend⟩:=(E1.mono s2).ixD hO e0 e3 hd
  rw[hv2] at hv1
  obtain rfl:a2=a1:=by injection hv1 with z;injection z with z;injection z
  rw[s2 _ _ hH1] at hH2
  obtain rfl:vs1=vs2:=by injection hH2 with z;injection z
  rw[hj2] at hj1
  obtain rfl:b2=b1:=by injection hj1 with z;injection z
  exact lend D2 e6 fun v H' s3 E3 Dv=>q v H' E3 (((del_mono s1 _).trans (del_mono s2 _)).trans s3) Dv
def callDst (i:Nat)(F:List PyData->Option (PyData×PyData))(ρ:Rho):Option Out:=((ρ[i]?).join.bind dkD).bind fun _=>((ρ[i]?).join).bind fun d0=>(F [d0]).map fun r=>.nx (ρ.set i (some r.2))
theorem s_callDst {oa:Option Addr}(G:DefDc X.prog X.w X.K X.mg X.base k x ps ns F)(hr:Room k X.A)(hg:Gl X x)(hx:PE X (.Name y p1) (tVar i))(hO:O.s.lookup i=some (.dc oa ns):=by rfl)(hdb:(x==("__debug__":Str))=false:=by decide)
  (he:starEach [.Name y p1] X.env=(false,eval (.Name y p1) X.env)::starEach [] X.env:=by rfl) (hpl:(backTo p2 (starEach [] X.env)).any (·.1)=false:=by rfl) (hs:swapsWith (.Call (.Name x p) [.Name y p1] [] p2) none pos.line X.env=pure false:=by rfl) :
  PSv X O (.Expr (.Call (.Name x p) [.Name y p1] [] p2) pos) (callDst i F):=by
 obtain⟨f,fd,g1,g2,g3,g4,_⟩:=G
 exact (ps_expr (pe_call g1 hr hg g2 g3 g4 .nil pass0 (pa_cons hx pa_nil he) hdb he hpl) hs).imp fun D σ H zpat=>by
  obtain⟨hid,H0,ρ,ow,o,E,hf,q⟩:=zpat
  obtain⟨dv,e0,hf⟩:=bind_some hf
  obtain⟨d0,e1,hf⟩:=bind_some hf
  obtain⟨r,e3,rfl⟩:=map_some hf
  have hd:(dkD d0).isSome=true:=by
   rw[e1,Option.bind_some] at e0
   rw[e0]
   rfl
  obtain⟨A,EA⟩:=E.own
  obtain⟨v,hv,D0⟩:=EA.1 i _ d0 hO (join_some e1)
  obtain⟨c,hc⟩:∃ c,v=.ref c:=by
   generalize A i=Ai at D0
   cases D0 with
   | non=>cases hd
   | dc _ _ _=>exact⟨_,rfl⟩
  subst hc
  refine⟨.ref c,hv,?_⟩
  show SpDc X.K ns F [.ref c] H _
  exact E.lendDc (D:=D) hO e1 hd hv .nil e3 fun v H' ow' s2 E2=>q σ H' ow' s2 E2
theorem t_cmpXR {op:CmpOp}{g:PyData->PyData->Option PyData}{fc:Rho->Option (PyData×Rho)}(C:CmpD X op g)(ha:PV X O a fa)(hb:PX X O b fc)(h1:op≠.In:=by decide)(h2:op≠.NotIn:=by decide):PT X (.Compare a [op] [b] pos) (tTX X.K O (fun ρ=>testX (opR g fa fc ρ))):=by
 obtain⟨rd,ho,hs⟩:=C.ex
 refine (pt_cmpR ho ha hb (nomark b h1 h2)).imp fun σ H Q zpat=>?_
 obtain⟨hid,H0,ρ,ow,r,E,hf,q⟩:=zpat
 obtain⟨r0,hg,h4⟩:=bind_some hf
 obtain⟨bb,h6,rfl⟩:=map_some h4
 obtain⟨d1,e1,hf⟩:=bind_some hg
 obtain⟨r1,e2,hf⟩:=bind_some hf
 obtain⟨d3,e3,rfl⟩:=map_some hf
 refine⟨hid,H0,ρ,ow,d1,E,e1,fun v H1 s1 D1=>⟨hid,H0,ρ,ow,r1,E.mono s1,e2,fun w H2 E2 s2 D2=>hs v w H2 _ _ _ _ ((D1.mono s2).mono (del_same _ _)) (D2.mono (del_same _ _)) e3 fun u S=>?_⟩⟩
 have hb2:=boolD_some h6
 subst hb2
 cases S
 exact⟨bb,rfl,q H2 E2 ((del_mono s1 _).trans s2)⟩
end
end L2
namespace L2
variable [Reg]
def PL (P:V->PyData->Prop):List V->List PyData->Prop
 | v::vs,d::ds=>P v d∧PL P vs ds
 | [],[]=>True
 | _,_=>False
theorem DenOs.pl {K:PySem.W.Frag}{H C:Hp}{T:Ty}{vs:List V}{ds:List PyData}{as:List Addr}(h:DenOs K H C T vs ds as):∀ {P:Addr->Prop},(∀ p∈as,P p)->PL (fun v d=>∃ bs,(∀ p∈bs,P p)∧DenO K H C T v d bs) vs ds:=
 h.ind (P:=fun vs ds as=>∀ {P:Addr->Prop},(∀ p∈as,P p)->PL (fun v d=>∃ bs,(∀ p∈bs,P p)∧DenO K H C T v d bs) vs ds) (fun _=>trivial) fun {v d vs ds as bs} h0 r n ih P hp=>⟨⟨as,fun p z=>hp p (List.mem_append_left _ z),h0⟩,ih fun p z=>hp p (List.mem_append_right _ z)⟩
section
variable {X:Cx}{O:Ow}
end
section
variable {X:Cx}{O:Ow}{e a:Expr}{pos:Pos}{T:Ty}{f fa:Rho->Option PyData}
theorem ft_nil:PFt X O (.lst T) (.List [] pos) (fun _=>some (.list [])):=(pe_lst pa_nil).imp fun σ H Q zpat=>by
 obtain⟨hid,H0,ρ,ow,r,E,hf,k⟩:=zpat
 obtain rfl:=Option.some.inj hf
 exact⟨Nat.zero_le _,fun p hp=>k (.ref p) [p] _ (same_new hp) (fun b hb=>by rw[List.mem_singleton.mp hb];exact hp) (.lst upd_same .nil (by simp))⟩
end
section
variable {K:PySem.W.Frag}{O:Ow}{hid:Addr->Prop}{H0 H H' C:Hp}{σ:St}{ρ:Rho}{ow:List Addr}
theorem DenOs.app {t:Ty}{ws:List V}{es:List PyData}{bs:List Addr}(h2:DenOs K H C t ws es bs){vs:List V}{ds:List PyData}{as:List Addr}(h:DenOs K H C t vs ds as):(∀ p∈as,p∉bs)->DenOs K H C t (vs++ws) (ds++es) (as++bs):=
 DenOs.ind (P:=fun vs ds as=>(∀ p∈as,p∉bs)->DenOs K H C t (vs++ws) (ds++es) (as++bs)) (fun _=>h2) (fun h r n ih q=>by
  rw[List.append_assoc]
  exact .cons h (ih fun p hp=>q p (List.mem_append_right _ hp)) fun p hp z=>(List.mem_append.mp z).elim (n p hp) (q p (List.mem_append_left _ hp))) h
end
section
variable {X:Cx}{O:Ow}{e:Expr}{f:Rho->Option PyData}{pos:Pos}{T:Ty}
end
section
variable {K:PySem.W.Frag}{hid:Addr->Prop}{H0 H:Hp}{σ:St}{ρ:Rho}{ow:List Addr}{T r:Ty}{i j:Nat}
end
section
variable {X:Cx}{T r:Ty}{i j:Nat}{st1 st2:Stmt}{f:Rho->Option PyData}{G:Rho->Option Out}{x:Str}{e:Expr}{pos pos':Pos}
end
end L2
namespace L2
variable [Reg]
section
variable {X:Cx}{O:Ow}{a b:Expr}{pos:Pos}{ga:Rho->Option Bool}{gb:Rho->Option (Bool×Rho)}{fa fb:Rho->Option PyData}{T:Ty}
def orX2 (ga:Rho->Option Bool)(gb:Rho->Option (Bool×Rho))(ρ:Rho):Option (Bool×Rho):=(ga ρ).bind fun c=>if c=true then some (true,ρ) else gb ρ
theorem w_orX2 (ha:PTv X O a ga)(hb:PT X b (tTX X.K O gb)):PT X (.BoolOp .Or [a,b] pos) (tTX X.K O (orX2 ga gb)):=
 ((pw_or ha (pw_or1 hb)).pt).imp fun σ H Q zpat=>by
  obtain⟨hid,H0,ρ,ow,k,E,hf,q⟩:=zpat
  obtain⟨c,h1,h2⟩:=bind_some hf
  refine⟨hid,H0,ρ,ow,c,E,h1,fun H1 s1=>?_⟩
  by_cases hc:c=true
  ·rw[if_pos hc] at h2 ⊢
   obtain rfl:=Option.some.inj h2
   exact q H1 (E.mono s1) (del_mono s1 _)
  ·rw[if_neg hc] at h2 ⊢
   exact⟨hid,H0,ρ,ow,k,E.mono s1,h2,fun H2 E2 s2=>q H2 E2 ((del_mono s1 _).trans s2)⟩
theorem ft_lst2 (ha:PFt X O T a fa)(hb:PFt X O T b fb)(hs:starEach [a,b] X.env=(false,eval a X.env)::starEach [b] X.env:=by rfl)(hs2:starEach [b] X.env=(false,eval b X.env)::starEach [] X.env:=by rfl):PFt X O (.lst T) (.List [a,b] pos) (fun ρ=>(fa ρ).bind fun x=>(fb ρ).map fun y=>.list [x,y]):=(pe_lst (pa_cons ha (pa_cons hb pa_nil hs2) hs)).imp fun σ H Q zpat=>by
 obtain⟨hid,H0,ρ,ow,r,E,hf,k⟩:=zpat
 obtain⟨x,g1,hf⟩:=bind_some hf
 obtain⟨y,g2,rfl⟩:=map_some hf
 refine⟨hid,H0,ρ,ow,x,E,g1,fun v as H1 s1 n1 D1=>⟨hid2 hid H as,H0,ρ,ow,y,E.hide s1 as D1.lists,g2,fun w bs H2 s2 n2 D2=>⟨(by decide:2≤sizeLine),fun p hp=>?_⟩⟩⟩
 have na:p∉as:=fun z=>by
  obtain⟨ws,e⟩:=D1.lists p z
  rw[s2 _ _ e] at hp;cases hp
 have nb:p∉bs:=fun z=>by
  obtain⟨ws,e⟩:=D2.lists p z
  rw[hp] at e;cases e
 have dj:∀ q∈as,q∉bs:=fun q hq z=>by
  obtain⟨ws,e⟩:=D1.lists q hq
  rw[n2 q z] at e;cases e
 have mem:∀ q,uni hid ((p::(as++bs))++ow) q↔hid q∨q=p∨q∈as∨q∈bs∨q∈ow:=fun q=>by
  unfold uni
  simp only[List.mem_append,List.mem_cons,or_assoc]
 have c1:Same (del H1 (uni hid (as++ow))) (del (upd H2 p (.lst [v,w])) (uni hid ((p::(as++bs))++ow))):=fun q o e=>by
  by_cases hq:uni hid (as++ow) q
  ·rw[del_in hq] at e;cases e
  ·rw[del_out hq] at e
   have e2:=s2 _ _ e
   rw[del_out fun z=>?_,upd_ne (ne_of_none e2 hp)]
   ·exact e2
   ·rcases (mem q).mp z with z | z | z | z | z
    ·exact hq (.inl z)
    ·rw[z,hp] at e2;cases e2
    ·exact hq (.inr (List.mem_append_left _ z))
    ·rw[n2 q z] at e;cases e
    ·exact hq (.inr (List.mem_append_right _ z))
 have c2:Same (del H2 (uni (hid2 hid H as) (bs++ow))) (del (upd H2 p (.lst [v,w])) (uni hid ((p::(as++bs))++ow))):=fun q o e=>by
  by_cases hq:uni (hid2 hid H as) (bs++ow) q
  ·rw[del_in hq] at e;cases e
  ·rw[del_out hq] at e
   rw[del_out fun z=>?_,upd_ne (ne_of_none e hp)]
   ·exact e
   ·rcases (mem q).mp z with z | z | z | z | z
    ·exact hq (.inl (.inl z))
    ·rw[z,hp] at e;cases e
    ·exact hq (.inl (.inr ⟨z,n1 q z⟩))
    ·exact hq (.inr (List.mem_append_left _ z))
    ·exact hq (.inr (List.mem_append_right _ z))
 have q2:=DenOs.cons (D2.mono (H':=upd H2 p (.lst [v,w])) c2 fun q hq o e=>by rw[upd_ne (show q≠p from fun z=>nb (z▸hq))];exact e) .nil (fun q _ z=>by cases z)
 rw[List.append_nil] at q2
 exact k (.ref p) (p::(as++bs)) _ ((s1.trans s2).trans (same_new hp)) (fun q hq=>by
  rcases List.mem_cons.mp hq with z | z
  ·rw[z];exact (s1.trans s2).free hp
  ·rcases List.mem_append.mp z with z | z
   ·exact n1 q z
   ·exact s1.free (n2 q z)) (.lst upd_same (.cons (D1.mono (H':=upd H2 p (.lst [v,w])) c1 fun q hq o e=>by rw[upd_ne (show q≠p from fun z=>na (z▸hq))];exact s2 _ _ e) q2 dj) fun z=>(List.mem_append.mp z).elim na nb)
end
section
variable {X:Cx}{O:Ow}{i j n:Nat}{x y z:Str}{p1 p2 p3 p4 p5 p6 p7 p8 p9 pa pb pc pd:Pos}{c1 c2:Nat}{m7:Int}
def appsF (i j n:Nat)(ρ:Rho):Option Out:=((ρ[i]?).join.bind isL).bind fun ls=>((ρ[j]?).join.bind isL).bind fun ps=>if (decide (ls.length≤100)&&decide (ps.length≤100)&&decide (n<ρ.length)&&ls.all (fun d=>match d with | .list l=>decide (l.length≤100) | .none=>true | _=>false))=true then some (.nx (((ρ.set i none).set j none).set n none)) else none
theorem EnvOk.forget {K:PySem.W.Frag}{hid:Addr->Prop}{H0 H:Hp}{σ:St}{ρ:Rho}{ow:List Addr}(E:EnvOk K O hid H0 σ H ρ ow)(i:Nat):EnvOk K O hid H0 σ H (ρ.set i none) ow:=by
 obtain⟨A,a1,a2,a3⟩:=E.own
 refine⟨by simpa using E.len,E.base,fun k d hk q=>E.val k d hk (set_none q).2,⟨A,fun k t d hk q=>a1 k t d hk (set_none q).2,a2,a3⟩,E.isl,E.ishL,E.emp⟩
theorem EnvOk.waste {K:PySem.W.Frag}{hid:Addr->Prop}{H0 H:Hp}{σ:St}{ρ:Rho}{ow:List Addr}(A:Nat->List Addr)(E:EnvOk K O hid H0 σ H ρ ow)(a1:OwnA K O hid σ H ρ ow A){c:Addr}(hc:c∈ow)(hA:∀ k,c∉A k){xs:List V}:EnvOk K O hid H0 σ (upd H c (.lst xs)) ρ ow∧OwnA K O hid σ (upd H c (.lst xs)) ρ ow A:=by
 have ed:del (upd H c (.lst xs)) (uni hid ow)=del H (uni hid ow):=del_upd (uni_in hc)
 have eo:del (upd H c (.lst xs)) (fun b=>b∈ow)=del H (fun b=>b∈ow):=del_upd hc
 have o:OwnA K O hid σ (upd H c (.lst xs)) ρ ow A:=⟨fun k t d hk q=>by
  obtain⟨v,b1,b2⟩:=a1.1 k t d hk q
  refine⟨v,b1,?_⟩
  rw[ed]
  exact b2.mono (Same.refl _) fun q hq o e=>by rw[upd_ne (show q≠c from fun z=>hA k (z▸hq))];exact e,a1.2⟩
 refine⟨⟨E.len,by rw[eo];exact E.base,fun k d hk q=>by rw[ed];exact E.val k d hk q,⟨A,o⟩,fun l hl=>?_,fun b hb=>?_,E.emp⟩,o⟩
 ·obtain⟨⟨w,e⟩,nh⟩:=E.isl l hl
  refine⟨?_,nh⟩
  by_cases hlc:l=c
  ·rw[hlc];exact⟨.l xs,upd_same⟩
  ·exact⟨w,by rw[upd_ne hlc];exact e⟩
 ·obtain⟨w,e⟩:=E.ishL b hb
  exact⟨w,by rw[upd_ne (show b≠c from fun z=>(E.isl c hc).2 (z▸hb))];exact e⟩
theorem EnvOk.stray {K:PySem.W.Frag}{hid:Addr->Prop}{H0 H:Hp}{σ:St}{ρ:Rho}{ow:List Addr}{A:Nat->List Addr}(E:EnvOk K O hid H0 σ H ρ ow)(EA:OwnA K O hid σ H ρ ow A){n:Nat}{v:V}(h:∀ d,ρ[n]?≠some (some d)):EnvOk K O hid H0 (σ.set n (some v)) H ρ ow∧OwnA K O hid (σ.set n (some v)) H ρ ow A:=by
 have o:OwnA K O hid (σ.set n (some v)) H ρ ow A:=⟨fun k t d hk q=>by
  have hne:k≠n:=fun z=>h d (z▸q)
  rw[List.getElem?_set_ne (Ne.symm hne)]
  exact EA.1 k t d hk q,EA.2⟩
 exact⟨⟨by simpa using E.len,E.base,fun k d hk q=>by
  have hne:k≠n:=fun z=>h d (z▸q)
  rw[List.getElem?_set_ne (Ne.symm hne)]
  exact E.val k d hk q,⟨A,o⟩,E.isl,E.ishL,E.emp⟩,o⟩
theorem rows_of {K:PySem.W.Frag}{H C:Hp}{vs:List V}{ls:List PyData}{as:List Addr}(h:DenOs K H C (.lst .cl) vs ls as):ls.all (fun d=>match d with | .list l=>decide (l.length≤100) | .none=>true | _=>false)=true->∀ v∈vs,v=.non∨∃ c xs,v=.ref c∧c∈as∧H c=some (.lst xs)∧xs.length≤100:=
 h.ind (P:=fun vs ls as=>ls.all (fun d=>match d with | .list l=>decide (l.length≤100) | .none=>true | _=>false)=true->∀ v∈vs,v=.non∨∃ c xs,v=.ref c∧c∈as∧H c=some (.lst xs)∧xs.length≤100) (fun _ v hv=>by cases hv) fun {v d vs ds as bs} h0 r n ih ha w hw=>by
  rw[List.all_cons,Bool.and_eq_true] at ha
  rcases List.mem_cons.mp hw with rfl | hw
  ·cases h0 with
   | non=>exact .inl rfl
   | lst hH q na=>exact .inr ⟨_,_,rfl,List.mem_append_left _ List.mem_cons_self,hH,by rw[q.length];exact of_decide_eq_true ha.1⟩
  ·rcases ih ha.2 w hw with z | ⟨c,xs,e1,e2,e3⟩
   ·exact .inl z
   ·exact .inr ⟨c,xs,e1,List.mem_append_right _ e2,e3⟩
inductive AppI (K:PySem.W.Frag)(O:Ow)(hid:Addr->Prop)(H0 H:Hp)(ρ:Rho)(ow:List Addr)(A:Nat->List Addr)(L:List V)(p:Addr)(idx m:Nat)(τ:St)(H2:Hp):Prop
 | mk (hm:idx+m=L.length) (E:EnvOk K O hid H0 τ H2 ρ ow) (EA:OwnA K O hid τ H2 ρ ow A) (hp:H2 p=some (.lst L)) (hl:n<τ.length) (hc:∀ c,V.ref c∈L->c∈ow∧(∀ k,c∉A k)∧c≠p∧∃ xs,H2 c=some (.lst xs)∧xs.length≤100+idx) (sm:Same (del H (uni hid ow)) (del H2 (uni hid ow))):AppI K O hid H0 H ρ ow A L p idx m τ H2
theorem s_apps (hps:PassesOwn (model X.prog X.w) X.A X.env X.xe)(hc:X.calm=true)(hN:X.N.Nodup)(hn:X.N[n]?=some z)(hz:Loc X.env.scope z)(hx:PE X (.Name x p1) (tVar i))(hy:PE X (.Name y p2) (tVar j))(hz5:PE X (.Name z p5) (tVar n))(hz6:PE X (.Name z p6) (tVar n))(hOi:O.s.lookup i=some (.lst (.lst .cl)):=by rfl)(hOj:O.s.lookup j=some (.lst .cl):=by rfl)(hij:i≠j:=by decide)
  (hst:starEach [.Name y p2] X.env=(false,eval (.Name y p2) X.env)::starEach [] X.env:=by rfl) (hf:X.fn z=true∨X.env.scope.names.lookup z=some .local:=by first | exact .inl rfl | exact .inr rfl | assumption)
  (hbase:attributeBase (.Name z p6) "append" X.env (eval (.Name z p6) X.env)=eval (.Name z p6) X.env:=by rfl)
  (hfew:((backTo pc (starEach [.Constant (.int m7) c2 pb] X.env)).all (fun x=>!x.1)&&(backToKw pc (keywordEach [] X.env)).all (fun x=>x.1.isSome)&&decide ([Expr.Constant (.int m7) c2 pb].length+([]:List Keyword).length+(if ([]:List Keyword).isEmpty then 0 else 1)<30))=true:=by rfl)
  (hline:(pa.endLine==pc.line)=true:=by rfl) (hst7:starEach [.Constant (.int m7) c2 pb] X.env=(false,eval (.Constant (.int m7) c2 pb) X.env)::starEach [] X.env:=by rfl) (hplain:(backTo pc (starEach [] X.env)).any (·.1)=false:=by rfl)
  (hs:swapsWith (.Call (.Attribute (.Name z p6) "append" pa) [.Constant (.int m7) c2 pb] [] pc) none pd.line X.env=pure false:=by rfl)
  (hfs:∀ w,foldedSetIterable (.BinOp (.Name x p1) .Add (.List [.Name y p2] p4) p7) X.env w=pure w:=by intro _;rfl) {pe pf:Pos} :
  PSv X O (.For (.Name z p3) (.BinOp (.Name x p1) .Add (.List [.Name y p2] p4) p7) [.If (.Compare (.Name z p5) [.IsNot] [.Constant .none c1 p8] p9) [.Expr (.Call (.Attribute (.Name z p6) "append" pa) [.Constant (.int m7) c2 pb] [] pc) pd] [] pe] [] pf) (appsF i j n):=
 (ps_for hps hc (pi_list (pe_op op_catS hx (pe_lst (pa_cons hy pa_nil hst)))) (pg_name hN hn hz hf) (pss_one (ps_if (pt_cmpR op_notN hz5 pe_non rfl) (pss_one (ps_expr (pe_bm PySem.F.plainAttrs_list PySem.F.slot_list_append PySem.F.type_list_append mt_append hz6 (pa_cons pe_int pa_nil hst7) hbase hfew hline hst7 hplain) hs)) pss_nil)) hfs).imp fun D σ H zpat=>by
  obtain⟨hid,H0,ρ,ow,o,E,hf0,k⟩:=zpat
  obtain⟨ls,e1,hf0⟩:=bind_some hf0
  obtain⟨ps,e2,hf0⟩:=bind_some hf0
  split at hf0
  case isFalse=>cases hf0
  rename_i hcond
  obtain rfl:=Option.some.inj hf0
  rw[Bool.and_eq_true,Bool.and_eq_true,Bool.and_eq_true] at hcond
  obtain⟨⟨⟨hc1,hc2⟩,hcn⟩,hc3⟩:=hcond
  have hcn:=of_decide_eq_true hcn
  have hc1:=of_decide_eq_true hc1
  have hc2:=of_decide_eq_true hc2
  obtain⟨d1,g1,g2⟩:=bind_some e1
  obtain⟨d2,g3,g4⟩:=bind_some e2
  rw[isL_some g2] at g1
  rw[isL_some g4] at g3
  obtain⟨A,EA⟩:=E.own
  obtain⟨v,hv,D1⟩:=EA.1 i _ _ hOi (join_some g1)
  obtain⟨w,hw,D2⟩:=EA.1 j _ _ hOj (join_some g3)
  have a3i:=EA.2.2 i
  have a3j:=EA.2.2 j
  have dij:=EA.2.1
  generalize hAi:A i=Ai at D1 a3i
  generalize hAj:A j=Aj at D2 a3j
  cases D1 with
  | @lst _ l vs _ as hH q na=>
  cases D2 with
  | @lst _ r ws _ as2 hH2 q2 na2=>
  have rows:=rows_of q hc3
  have nlen:n<σ.length:=by rw[← E.len];exact hcn
  refine⟨.ref l,hv,.ref r,hw,(by decide:1≤sizeLine),fun p1 hp1=>⟨l,p1,vs,[.ref r],rfl,rfl,SqL.of (same_new hp1 _ _ hH),SqL.of upd_same,?_,fun p2 hp2=>⟨p2,rfl,⟨_,SqL.of upd_same⟩,?_⟩⟩⟩
  ·have hz:1000≤sizeLine:=by decide
   have:=q.length
   rw[List.length_singleton]
   omega
  have H1s:Same H (upd (upd H p1 (.lst [.ref r])) p2 (.lst (vs++[.ref r]))):=(same_new hp1).trans (same_new hp2)
  have hp2H:H p2=none:=(same_new hp1).free hp2
  have p2o:p2∉ow:=fun y=>by
   obtain⟨⟨u,e⟩,_⟩:=E.isl p2 y
   rw[hp2H] at e;cases e
  generalize hρ':((ρ.set i none).set j none).set n none=ρ' at k ⊢
  have sub:∀ kk d,ρ'[kk]?=some (some d)->kk≠i∧kk≠j∧kk≠n∧ρ[kk]?=some (some d):=fun kk d e=>by
   rw[← hρ'] at e
   obtain⟨n1,e⟩:=set_none e
   obtain⟨n2,e⟩:=set_none e
   obtain⟨n3,e⟩:=set_none e
   exact⟨n3,n2,n1,e⟩
  have EA':OwnA X.K O hid σ H ρ' ow (fun kk=>if kk=i∨kk=j then [] else A kk):=⟨fun kk t d hk e=>by
   obtain⟨n1,n2,n3,e'⟩:=sub kk d e
   obtain⟨u,u1,u2⟩:=EA.1 kk t d hk e'
   refine⟨u,u1,?_⟩
   dsimp only
   rw[if_neg fun y=>y.elim n1 n2]
   exact u2,fun k1 k2 p hk h1 h2=>by
   dsimp only at h1 h2
   split at h1
   ·cases h1
   ·split at h2
    ·cases h2
    ·exact EA.2.1 k1 k2 p hk h1 h2,fun k1 p h1=>by
   dsimp only at h1
   split at h1
   ·cases h1
   ·exact EA.2.2 k1 p h1⟩
  have E':EnvOk X.K O hid H0 σ H ρ' ow:=by rw[← hρ'];exact ((E.forget i).forget j).forget n
  have hnn:∀ d,ρ'[n]?≠some (some d):=fun d e=>(sub n d e).2.2.1 rfl
  have notA:∀ c,c∈A i∨c∈A j->∀ kk,c∉(fun kk=>if kk=i∨kk=j then [] else A kk) kk:=fun c hc kk y=>by
   dsimp only at y
   split at y
   ·cases y
   ·rename_i h
    rcases hc with hc | hc
    ·exact EA.2.1 kk i c (fun z=>h (.inl z)) y hc
    ·exact EA.2.1 kk j c (fun z=>h (.inr z)) y hc
  have inL:∀ c,V.ref c∈vs++[.ref r]->c∈ow∧(∀ kk,c∉(fun kk=>if kk=i∨kk=j then [] else A kk) kk)∧c≠p2∧∃ xs,H c=some (.lst xs)∧xs.length≤100+0:=fun c hc=>by
   rcases List.mem_append.mp hc with hc | hc
   ·rcases rows _ hc with y | ⟨c',xs,e1,e2,e3,e4⟩
    ·cases y
    ·obtain rfl:c=c':=by injection e1
     have hci:c∈A i:=by rw[hAi];exact List.mem_cons_of_mem _ e2
     have hco:=EA.2.2 i c hci
     exact⟨hco,notA c (.inl hci),fun y=>p2o (y▸hco),xs,e3,e4⟩
   ·obtain rfl:c=r:=by injection List.mem_singleton.mp hc
    have hcj:c∈A j:=by rw[hAj];exact List.mem_cons_self
    have hco:=EA.2.2 j c hcj
    exact⟨hco,notA c (.inr hcj),fun y=>p2o (y▸hco),ws,hH2,by rw[q2.length];exact hc2⟩
  refine⟨AppI (n:=n) X.K O hid H0 H ρ' ow (fun kk=>if kk=i∨kk=j then [] else A kk) (vs++[.ref r]) p2,⟨(vs++[V.ref r]).length,.mk (Nat.zero_add _) (E'.mono H1s) (EA'.mono H1s) upd_same nlen (fun c hc=>?_) (del_mono H1s _)⟩,fun idx m τ H2 zp=>?_⟩
  ·obtain⟨y1,y2,y3,xs,y4,y5⟩:=inL c hc
   exact⟨y1,y2,y3,xs,H1s _ _ y4,y5⟩
  obtain⟨hm,E2,EA2,hL,hτ,hcs,sm⟩:=zp
  cases m with
  | zero=>exact .inl ⟨⟨_,SqL.of hL,by rw[← hm];exact Nat.le_refl _⟩,k τ H2 ow sm E2⟩
  | succ m=>
   have hlt:idx<(vs++[V.ref r]).length:=by omega
   refine .inr ⟨⟨_,(vs++[V.ref r])[idx],SqL.of hL,List.getElem?_eq_getElem hlt⟩,AppI (n:=n) X.K O hid H0 H ρ' ow (fun kk=>if kk=i∨kk=j then [] else A kk) (vs++[.ref r]) p2 (idx+1) m,fun τ' H' y=>⟨m,Nat.lt_succ_self m,y⟩,fun u H3 yy=>?_⟩
   obtain⟨rfl,hu⟩:=yy
   have hu':=hu _ (SqL.of hL)
   have hget:(τ.set n (some u))[n]?=some (some u):=List.getElem?_set_self hτ
   obtain⟨E3,EA3⟩:=E2.stray EA2 (v:=u) hnn
   refine⟨u,hget,rfl,_,rfl,?_⟩
   dsimp only
   by_cases hun:u=.non
   ·rw[if_neg (by rw[decide_eq_true hun];decide)]
    exact .mk (by omega) E3 EA3 hL (by simpa using hτ) (fun c hc=>by
     obtain⟨y1,y2,y3,xs,y4,y5⟩:=hcs c hc
     exact⟨y1,y2,y3,xs,y4,by omega⟩) sm
   ·rw[if_pos (by rw[decide_eq_false hun];rfl)]
    obtain⟨c,rfl⟩:∃ c,u=.ref c:=by
     rcases List.mem_append.mp (List.mem_of_getElem? hu') with y | y
     ·rcases rows _ y with y | ⟨c,xs,e1,_⟩
      ·exact absurd y hun
      ·exact⟨c,e1⟩
     ·exact⟨r,List.mem_singleton.mp y⟩
    obtain⟨y1,y2,y3,xs,y4,y5⟩:=hcs c (List.mem_of_getElem? hu')
    have hlx:(vs++[V.ref r]).length≤101:=by rw[List.length_append,List.length_singleton,q.length];omega
    have hz9:1000≤sizeLine:=by decide
    obtain⟨E4,EA4⟩:=EnvOk.waste _ E3 EA3 y1 y2 (xs:=xs++[.int m7])
    refine⟨.ref c,hget,.inl ⟨rfl,xs,SqL.of y4⟩,c,xs,.int m7,rfl,rfl,y4,by omega,.mk (by omega) E4 EA4 (by rw[upd_ne (Ne.symm y3)];exact hL) (by simpa using hτ) (fun c' hc'=>?_) (by rw[del_upd (uni_in y1)];exact sm)⟩
    obtain⟨w1,w2,w3,xs',w4,w5⟩:=hcs c' hc'
    by_cases hcc:c'=c
    ·refine⟨w1,w2,w3,xs++[.int m7],by rw[hcc];exact upd_same,?_⟩
     rw[List.length_append,List.length_singleton]
     omega
    ·exact⟨w1,w2,w3,xs',by rw[upd_ne hcc];exact w4,by omega⟩
end
end L2
namespace L2
section
variable {X:Cx}{pins:List (Addr×Obj)}{σ:St}{H:Hp}{s:Shared}{Q:VK}{us:List Value}{vs:List V}{k:Nat}{f C:Addr}{fd:FuncData}{ps:List Str}{sp:Sp}{E:XK}
theorem run_makeX (M:Mk X.K C f)(F:FnOk X.prog X.w X.K X.mg X.base (CXe X.prog X.w) k f fd ps sp)(hr:Room (k+1) X.A)(hb:Binds X.K fd ps [])(hex:X.ex=[])(I:Inv X pins σ H s)(r:Vals vs us)
  (h:∀ x dx,H x=none->H dx=none->dx≠x->sp (.ref x::vs) (upd (upd H dx (.own x)) x (.ins C dx [])) (fun v H2=>v=.non∧Q (.ref x) H2) E)
  (hx:∀ s' H' a C od,Inv X pins σ H' s'->Fly X pins H' s' a C od->E (.ref C) od H'->X.xe (.ref a) s'):wpAny (model X.prog X.w) X.A (call (.ref C) us) (EP X pins σ Q) X.xe s:=by
 have hq:=h (s.heap.objs.size+1) s.heap.objs.size (I.hok.fresh (Nat.le_succ _)) (I.hok.fresh (Nat.le_refl _)) (Nat.ne_of_lt (Nat.lt_succ_self _))
 have I2:=Inv.made (C:=C) I
 have r2:Vals (V.ref (s.heap.objs.size+1)::vs) (Value.ref (s.heap.objs.size+1)::us):=.cons rfl r
 have hl:(Value.ref (s.heap.objs.size+1)::us).length=ps.length:=by
  have e:=r2.length
  rw[F.len _ _ _ _ hq] at e
  exact e.symm
 have hb':=hb _ (Value.ref (s.heap.objs.size+1)::us) I2.kIn (by rw[List.append_nil];exact hl)
 rw[List.append_nil] at hb'
 refine wpAny_call (make_map (f:=f) I.kIn M.makes M.init (beq_iff_eq.mp M.fn) (codeAny_mono (F.run _ X.stack _ _ ⟨Value.ref (s.heap.objs.size+1)::us,[]⟩ (Value.ref (s.heap.objs.size+1)::us) _ _ E (hr.make C us [])
  (I2.env0.make C us []) hb' r2 hq) fun r s' hq'=>?_))
 cases r with
 | error e=>
  revert hq'
  refine fun zqq=>?_;obtain⟨H',a,C,od,zq4,ho,hg,un,hok,fl,q⟩:=zqq
  subst zq4
  refine hx s' H' a C od (I2.call' ho un hok hg fun b z=>absurd z (by simp)) ⟨⟨fl.ex,fl.fre,?_⟩,fun p hp z=>?_⟩ q
  rotate_left
  ·have:=(I2.pin p hp).1
   rw[z,fl.new] at this;cases this
  cases e0:X.s₀.heap.get? a with
  | none=>rfl
  | some o=>
   obtain⟨o',e1⟩:=I2.base.there a o e0 (by rw[hex];simp)
   rw[fl.new] at e1;cases e1
 | ok fl=>
  cases fl with
  | ret u=>
   obtain⟨v,H',I3,rv,ev,q3⟩:=I2.after hq'
   subst ev
   exact⟨rv,⟨V.ref (s.heap.objs.size+1),H',I3,rfl,q3⟩⟩
  | next=>exact False.elim hq'
  | brk=>exact False.elim hq'
  | cont=>exact False.elim hq'
end
variable [Reg]
inductive RN where
 | ok (r:PyData×PyData) | ex (x:PyData)
inductive RK where
 | nx (ρ:Rho) | ex (x:PyData)
def kRX (ρ:Rho):RX->RK
 | .ret _=>.nx ρ
 | .exc d=>.ex d
def kSeq (F:Rho->Option RK)(B:Rho->Option RN)(ρ:Rho):Option RN:=(F ρ).bind fun r=>match r with
 | .nx ρ'=>B ρ'
 | .ex d=>some (.ex d)
def tKX (X:Cx)(x:Addr)(F:Rho->Option RK):TS:=fun D σ H=>∃ hid H0 ρ r,EnvOk X.K O0 hid H0 σ H ρ []∧σ[0]?=some (some (.ref x))∧F ρ=some r ∧
 match r with
 | .nx ρ'=>∀ σ' H',Same H H'->EnvOk X.K O0 hid H0 σ' H' ρ' []->σ'[0]?=some (some (.ref x))->D.nx σ' H'
 | .ex d=>∀ pins s' σ' H' a C od,Inv X pins σ' H' s'->Same H H'->Fly X pins H' s' a C od->XIs X.K (del H' hid) C od d->X.xe (.ref a) s'
inductive KBX (X:Cx)(x:Addr)(f1 f2:Str)(B:Rho->Option RN)(D:Ends)(σ:St)(H:Hp):Prop
 | mk (hid:Addr->Prop) (H0:Hp) (ρ:Rho) (r:RN) (C dx:Addr) (E:EnvOk X.K O0 hid H0 σ H ρ []) (hx:σ[0]?=some (some (.ref x))) (hH:H x=some (.ins C dx [])) (hc:Cls X.K C) (n1:NoAttr X.K C f1) (n2:NoAttr X.K C f2) (hB:B ρ=some r)
  (k1:∀ d,r=.ok d->lf d.1=true∧lf d.2=true∧∀ σ' H' v1 v2,Same (del H fun b=>b=x) H'->H' x=some (.ins C dx [(f1,v1),(f2,v2)])->Den X.K (del H' fun b=>hid b∨b=x) v1 d.1->Den X.K (del H' fun b=>hid b∨b=x) v2 d.2->D.nx σ' H')
  (k2:∀ d,r=.ex d->∀ pins s' σ' H' a C od,Inv X pins σ' H' s'->Same H H'->Fly X pins H' s' a C od->XIs X.K (del H' hid) C od d->X.xe (.ref a) s'):KBX X x f1 f2 B D σ H
def tKBX (X:Cx)(x:Addr)(f1 f2:Str)(B:Rho->Option RN):TS:=fun D σ H=>KBX X x f1 f2 B D σ H
section
variable {X:Cx}{e:Expr}{st:Stmt}{sts rest:List Stmt}{pos:Pos}{x:Addr}{f1 f2:Str}{B:Rho->Option RN}{T:Ty}
theorem kx_call {f:Rho->Option RX}(he:PXt X O0 T e f)(hs:swapsWith e none pos.line X.env=pure false:=by rfl):PS X (.Expr e pos) (tKX X x (fun ρ=>(f ρ).map (kRX ρ))):=(ps_expr he hs).imp fun D σ H zpat=>by
 obtain⟨hid,H0,ρ,r,E,hx,hf,k⟩:=zpat
 obtain⟨r',g1,rfl⟩:=map_some hf
 refine⟨hid,H0,ρ,[],r',E,g1,?_⟩
 cases r' with
 | ret d=>exact fun v as H' s n _=>k σ H' s (E.mono s) hx
 | exc d=>exact fun pins s' H' a C od I s fl q=>k pins s' σ H' a C od I s fl (by rw[← uni_nil hid];exact q)
theorem kbx_cons {F:Rho->Option RK}(h1:PS X st (tKX X x F))(h2:PSs X rest (tKBX X x f1 f2 B)):PSs X (st::rest) (tKBX X x f1 f2 (kSeq F B)):=(pss_cons h1 h2).imp fun D σ H zpat=>by
 obtain⟨hid,H0,ρ,r,C,dx,E,hx,hH,hc,n1,n2,hB,k1,k2⟩:=zpat
 obtain⟨r',g1,g2⟩:=bind_some hB
 refine⟨hid,H0,ρ,r',E,hx,g1,?_⟩
 cases r' with
 | nx ρ'=>
  refine fun σ' H' s E' hx'=>⟨hid,H0,ρ',r,C,dx,E',hx',s _ _ hH,hc,n1,n2,g2,fun d e=>?_,fun d e pins s1 σ2 H2 a C od I s2=>k2 d e pins s1 σ2 H2 a C od I (s.trans s2)⟩
  obtain⟨l1,l2,q⟩:=k1 d e
  refine⟨l1,l2,fun σ2 H2 v1 v2 s2=>q σ2 H2 v1 v2 fun b o z=>s2 b o ?_⟩
  by_cases hb:b=x
  ·rw[hb,del_in (P:=fun b=>b=x) rfl] at z;cases z
  ·rw[del_out (P:=fun b=>b=x) hb] at z ⊢
   exact s b o z
 | ex d=>exact k2 d (Option.some.inj g2).symm
end
inductive SpNewX (K:PySem.W.Frag)(cls f1 f2:Str)(F:List PyData->Option RN)(vs:List V)(H:Hp)(Q:VK)(E:XK):Prop
 | mk (hid:Addr->Prop) (x dx C:Addr) (us:List V) (ds:List PyData) (r:RN) (e:vs=.ref x::us) (hH:H x=some (.ins C dx [])) (hn:PySem.W.nsIn K mainGlobals cls=some (some (.ref C))) (h1:∀ b,hid b->∃ vs:OwO,H b=some vs.ho) (D:DenL K (del H hid) us ds) (hF:F ds=some r)
  (k1:∀ d,r=.ok d->∀ H' v1 v2,Same (del H fun b=>b=x) H'->H' x=some (.ins C dx [(f1,v1),(f2,v2)])->Den K (del H' fun b=>hid b∨b=x) v1 d.1->Den K (del H' fun b=>hid b∨b=x) v2 d.2->Q .non H')
  (k2:∀ d,r=.ex d->∀ C od H',Same H H'->XIs K (del H' hid) C od d->E (.ref C) od H'):SpNewX K cls f1 f2 F vs H Q E
def spNewX (K:PySem.W.Frag)(cls f1 f2:Str)(F:List PyData->Option RN):Sp:=fun vs H Q E=>SpNewX K cls f1 f2 F vs H Q E
def okN:RN->Bool
 | .ok r=>lf r.1&&lf r.2
 | .ex _=>true
def runNX (n m:Nat)(B:Rho->Option RN)(ds:List PyData):Option RN:=if ds.length+1=n then (B (none::(ds.map some++List.replicate m none))).bind fun r=>if okN r=true then some r else none else none
theorem fn_autoNX {P:Program}{w:World}{K:PySem.W.Frag}{mg:Str->Option Value}{base:Heap}{x qual:Str}{st:Stmt}{f:Addr}{fd:FuncData}{N ps:List Str}{k:Nat}{cls f1 f2:Str}(h1:FldOk K cls f1)(h2:FldOk K cls f2)(F:Fun K x qual st f fd)(S:FnScope N ps (defScope st))(B:Rho->Option RN)
  (hbody:∀ (z:Addr) (cdv:Value),CdOk K f cdv->∀ (A:Around) (outer:List Env) (s:Shared) (H:Hp) (E:XK),Room k (A.deeper (envOfC qual (defScope st) s.heap.objs.size f cdv)) ->
   PSs (cxOf (CXe P w) P w K mg base N qual (defScope st) f cdv A outer s H E) (defBody st) (tKBX (cxOf (CXe P w) P w K mg base N qual (defScope st) f cdv A outer s H E) z f1 f2 B)) :
  FnOk P w K mg base (CXe P w) (k+1) f fd ps (spNewX K cls f1 f2 (runNX ps.length (N.length - ps.length) B)):=by
 obtain⟨a1,a2,a3,a4,a5,a6,cdv,a7,a8,e,lk,hcd⟩:=F.ex
 subst e
 refine fn_of lk hcd S (fun vs H Q E h=>?_) (fun A outer s H vs Q E hr h=>?_)
 ·obtain⟨hid,z,dx,C,us,ds,r,rfl,hH,hn,hl,D,hF,_,_⟩:=h
  unfold runNX at hF
  split at hF
  ·rename_i e
   rw[List.length_cons,D.length]
   exact e
  ·cases hF
 ·obtain⟨hid,z,dx,C,us,ds,r,rfl,hH,hn,hl,D,hF,q1,q2⟩:=h
  unfold runNX at hF
  split at hF
  case isFalse=>cases hF
  rename_i hlen
  obtain⟨r',hB,hF⟩:=bind_some hF
  split at hF
  case isFalse=>cases hF
  rename_i hlf
  obtain rfl:=Option.some.inj hF
  refine⟨_,hbody z cdv ⟨_,_,_,_,lk,rfl⟩ A outer s H E hr,⟨hid,H,_,r',C,dx,start_envN D hlen hl,rfl,hH,(h1 C hn).1,(h1 C hn).2,(h2 C hn).2,hB,fun d e=>?_,fun d e pins s' σ' H' a C od I sm fl hx=>cx_leave I fl.c (q2 d e C od H' sm hx)⟩⟩
  subst e
  rw[okN,Bool.and_eq_true] at hlf
  exact⟨hlf.1,hlf.2,fun σ' H' v1 v2 s' hx' D1 D2=>q1 d rfl H' v1 v2 s' hx' D1 D2⟩
def DefNX (P:Program)(w:World)(K:PySem.W.Frag)(mg:Str->Option Value)(base:Heap)(k:Nat)(cls:Str)(ps:List Str)(f1 f2:Str)(F:List PyData->Option RN):Prop:=
 ∃ C f fd,Mk K C f∧FnOk P w K mg base (CXe P w) k f fd ps (spNewX K cls f1 f2 F)∧mg cls=some (.ref C)∧PySem.W.nsIn K mainGlobals cls=some (some (.ref C))∧Binds K fd ps []
theorem ClsAt.okX {P:Program}{w:World}{K:PySem.W.Frag}{h:Heap}{mg:Str->Option Value}{base:Heap}{cls f1 f2:Str}{st:Stmt}{k:Nat}{ps:List Str}{F:List PyData->Option RN}(d:ClsAt K cls st f1 f2)(X:K.In h)(G:h.Ns mainGlobals mg)
  (hb:∀ (kV doc pm:Value) (an:Option Addr) (cdv ct:Value) (us:List Value),us.length=ps.length->bindArgs (PySem.W.fnOf "__init__" (cls++".__init__") (defArgs st) (defBody st) (defScope st) .none kV doc pm an cdv ct) ⟨us,[]⟩=pure (ps.zip us))
  (ok:∀ f fd,Fun K "__init__" (cls++".__init__") st f fd->FnOk P w K mg base (CXe P w) k f fd ps (spNewX K cls f1 f2 F)):DefNX P w K mg base k cls ps f1 f2 F:=by
 cases d with
 | mk C f fd a m1 m2 m3 m4 c1 c2 c3 c4 n1 n2 D=>exact⟨C,f,fd,⟨m1,m2,m3,m4⟩,ok f fd D,PySem.W.mg_of X G a,a,D.binds hb⟩
def newX (cls f1 f2:Str)(F:List PyData->Option RN)(a:Option (List PyData)):Option RX:=(a.bind F).map fun r=>match r with
 | .ok r=>.ret (objD cls [f1,f2] [r.1,r.2])
 | .ex x=>.exc x
section
variable {X:Cx}{O:Ow}{a:Expr}{es:List Expr}{pos p:Pos}{fs:Rho->Option (List PyData)}{k:Nat}{ps:List Str}{cls f1 f2:Str}{F:List PyData->Option RN}
theorem xt_make (G:DefNX X.prog X.w X.K X.mg X.base k cls ps f1 f2 F)(hr:Room (k+1) X.A)(hg:Gl X cls)(hex:X.ex=[])(ha:PAv X O (a::es) fs)(hdb:(cls==("__debug__":Str))=false:=by decide)(he:starEach (a::es) X.env=(false,eval a X.env)::starEach es X.env:=by rfl)(hpl:(backTo pos (starEach es X.env)).any (·.1)=false:=by rfl) :
  PXt X O .cl (.Call (.Name cls p) (a::es) [] pos) (fun ρ=>newX cls f1 f2 F (fs ρ)):=by
 obtain⟨C,f,fd,M,g1,g2,g3,g4⟩:=G
 intro pins s σ H Q I h
 obtain⟨hid,H0,ρ,ow,r0,E,hf,q⟩:=h
 obtain⟨r,hf2,rfl⟩:=map_some hf
 obtain⟨ds,h1,h2⟩:=bind_some hf2
 refine wpAny_Call_Name_kw (ld_glob I hg g2 ?_ hdb)
 refine PySem.W.callWith_K (h₀:=X.base) I.ok.mod.kin M.kp (thn (ha pos pins s σ H (fun vs H1=>Same H H1∧DenL X.K (del H1 (uni hid ow)) vs ds) I ⟨hid,H0,ρ,ow,ds,E,h1,fun vs H1 s1 D1=>⟨s1,D1⟩⟩) fun us s1 ⟨vs,H1,I1,r1,sm,D1⟩=>⟨I1.kIn,?_⟩) he hpl
 have E1:=E.mono sm
 refine run_makeX (E:=fun cv od H'=>∃ x C,r=.ex x∧cv=.ref C∧Same H1 H'∧XIs X.K (del H' (uni hid ow)) C od x) M g1 hr g4 hex I1 r1 (fun x dx nx ndx hne=>?_) fun s2 H2 a C od I2 fl ⟨x,C',hrx,hC,sm2,hx⟩=>?_
 ·have sN:Same H1 (upd (upd H1 dx (.own x)) x (.ins C dx [])):=fun b o q=>by
   rw[upd_ne (ne_of_none q nx),upd_ne (ne_of_none q ndx)]
   exact q
  refine⟨uni hid ow,x,dx,C,vs,ds,r,rfl,upd_same,g3,fun b hb=>?_,D1.mono (del_mono sN _),h2,fun d e H' v1 v2 s' hx' D1' D2'=>⟨rfl,?_⟩,fun d e C' od H' s' hx=>⟨d,C',e,rfl,sN.trans s',hx⟩⟩
  ·obtain⟨ws,q⟩:=E1.uniL b hb
   exact⟨ws,sN _ _ q⟩
  ·subst e
   have s2:Same H1 H':=fun b o q=>s' b o (by rw[del_out (P:=fun b=>b=x) (ne_of_none q nx)];exact sN b o q)
   refine q (.ref x) [] H' (sm.trans s2) (fun p hp=>absurd hp List.not_mem_nil) (.cl ?_)
   have sub:Same (del H' fun b=>uni hid ow b∨b=x) (del H' (uni hid ([]++ow))):=del_sub fun b z=>.inl z
   exact .obj (fs:=[(f1,v1),(f2,v2)]) ⟨C,dx,(del_out (P:=uni hid ([]++ow)) (E1.fresh nx)).trans hx',g3⟩ (.cons (D1'.mono sub) (.cons (D2'.mono sub) .nil))
 ·cases hC
  subst hrx
  exact q pins s2 H2 a C od I2 (sm.trans sm2) fl hx
end
end L2
namespace L2
variable [Reg]
theorem asIo_two1 {i j:Nat}{T r:Ty}(_h:i≠j):AsIo ⟨[(i,.lst .cl),(j,T)],r⟩ i (fun l=>⟨[(i,.io l),(j,T)],r⟩):=by
 refine⟨by simp[List.lookup_cons],fun l=>by simp[List.lookup_cons],fun l k hk=>?_,fun _=>rfl,fun l z=>by cases z⟩
 show List.lookup k [(i,Ty.io l),(j,T)]=List.lookup k [(i,.lst .cl),(j,T)]
 have hk':(k==i)=false:=beq_eq_false_iff_ne.mpr hk
 simp only[List.lookup_cons,hk']
section
variable {X:Cx}{rest:List Stmt}{x:Addr}{f1 f2:Str}
theorem kbx_never:PSs X rest (tKBX X x f1 f2 (fun _=>none)):=fun pins s σ H D I zpat=>by
 obtain⟨hid,H0,ρ,r,C,dx,E,hx,hH,hc,n1,n2,hB,k1,k2⟩:=zpat
 cases hB
end
theorem ClsW.okX {P:Program}{w:World}{K:PySem.W.Frag}{h:Heap}{mg:Str->Option Value}{base:Heap}{cls f1 f2:Str}{st:Stmt}{k:Nat}{ps:List Str}{F:List PyData->Option RN}(d:ClsW K cls st)(X:K.In h)(G:h.Ns mainGlobals mg)
  (hb:∀ (kV doc pm:Value) (an:Option Addr) (cdv ct:Value) (us:List Value),us.length=ps.length->bindArgs (PySem.W.fnOf "__init__" (cls++".__init__") (defArgs st) (defBody st) (defScope st) .none kV doc pm an cdv ct) ⟨us,[]⟩=pure (ps.zip us))
  (ok:∀ f fd,Fun K "__init__" (cls++".__init__") st f fd->FnOk P w K mg base (CXe P w) k f fd ps (spNewX K cls f1 f2 F)):DefNX P w K mg base k cls ps f1 f2 F:=by
 cases d with
 | mk C f fd a m1 m2 m3 m4 D=>exact⟨C,f,fd,⟨m1,m2,m3,m4⟩,ok f fd D,PySem.W.mg_of X G a,a,D.binds hb⟩
section
variable {X:Cx}{O:Ow}{a b:Expr}{pos:Pos}{fb:Rho->Option PyData}
theorem x_cmpL {op:CmpOp}{g:PyData->PyData->Option PyData}{fa:Rho->Option (PyData×Rho)}(C:CmpD X op g)(ha:PX X O a fa)(hb:PR X O b fb)(h1:op≠.In:=by decide)(h2:op≠.NotIn:=by decide):PX X O (.Compare a [op] [b] pos) (opL g fa fb):=by
 obtain⟨rd,ho,hs⟩:=C.ex
 exact (pe_cmpR ho ha hb (nomark b h1 h2)).imp fun σ H Q zpat=>by
  obtain⟨hid,H0,ρ,ow,r,E,hf,k⟩:=zpat
  obtain⟨r1,h1,h2⟩:=bind_some hf
  obtain⟨y1,h3,h4⟩:=bind_some h2
  obtain⟨d,h5,rfl⟩:=map_some h4
  exact⟨hid,H0,ρ,ow,r1,E,h1,fun x H1 E1 s1 D1=>⟨hid,H0,r1.2,ow,y1,E1,h3,fun y H2 s2 D2=>hs x y H2 _ _ _ Q ((D1.mono (del_mono s2 _)).mono (del_same _ _)) (D2.mono (del_same _ _)) h5 fun v S=>k v H2 (E1.mono s2) (s1.trans (del_mono s2 _)) S.den⟩⟩
def intX (fa:Rho->Option (PyData×Rho))(ρ:Rho):Option (PyData×Rho):=(fa ρ).bind fun r=>(intB r.1).map fun d=>(d,r.2)
theorem x_int {fa:Rho->Option (PyData×Rho)}{p:Pos}(hg:Gl X "int")(hm:X.mg "int"=none)(ha:PX X O a fa)(he:starEach [a] X.env=(false,eval a X.env)::starEach [] X.env:=by rfl):PX X O (.Call (.Name "int" p) [a] [] pos) (intX fa):=by
 obtain⟨r,hc,hs⟩:=(b_int (X:=X)).ex
 refine (pe_callTy hc hg hm rfl (pa_cons ha pa_nil he) (by decide) (by decide) he rfl).imp fun σ H Q zpat=>?_
 obtain⟨hid,H0,ρ,ow,r,E,hf,k⟩:=zpat
 obtain⟨r1,h1,hf⟩:=bind_some hf
 obtain⟨d,h2,rfl⟩:=map_some hf
 exact⟨hid,H0,ρ,ow,r1,E,h1,fun v H1 E1 s1 D1=>hs [v] H1 [r1.1] d Q (.cons (D1.mono (del_same _ _)) .nil) h2 fun v S=>k v H1 E1 s1 S.den⟩
end
end L2
namespace NW
open L2
def top (i:Nat):Stmt:=PySem.Challenge.pw_nearposts_k50_folk_that_come.main.body.getD i (.Pass ⟨0,0,0,0⟩)
abbrev s_l_digits:Stmt:=top 23
abbrev s_l_place:Stmt:=top 24
abbrev s_p_side_between:Stmt:=top 18
abbrev s_w_way_between:Stmt:=(clsBody (top 20)).getD 1 (.Pass ⟨0,0,0,0⟩)
abbrev s_w_is_far:Stmt:=(clsBody (top 20)).getD 2 (.Pass ⟨0,0,0,0⟩)
abbrev s_w_least_way:Stmt:=(clsBody (top 20)).getD 3 (.Pass ⟨0,0,0,0⟩)
abbrev s_w_raise_mark:Stmt:=(clsBody (top 20)).getD 4 (.Pass ⟨0,0,0,0⟩)
abbrev s_w_come:Stmt:=(clsBody (top 20)).getD 5 (.Pass ⟨0,0,0,0⟩)
abbrev s_p_check_many:Stmt:=top 16
abbrev s_w_xinit:Stmt:=(clsBody (top 20)).getD 0 (.Pass ⟨0,0,0,0⟩)
abbrev s_l_classes:Stmt:=top 30
abbrev s_l_which:Stmt:=top 31
abbrev s_l_refused:Stmt:=top 34
abbrev s_w_init:Stmt:=(clsBody (top 20)).getD 0 (.Pass ⟨0,0,0,0⟩)
abbrev s_w_folk:Stmt:=(clsBody (top 20)).getD 6 (.Pass ⟨0,0,0,0⟩)
abbrev s_w_posts:Stmt:=(clsBody (top 20)).getD 7 (.Pass ⟨0,0,0,0⟩)
abbrev s_w_bar:Stmt:=(clsBody (top 20)).getD 9 (.Pass ⟨0,0,0,0⟩)
abbrev s_w_mark:Stmt:=(clsBody (top 20)).getD 8 (.Pass ⟨0,0,0,0⟩)
abbrev s_w_way_to_post:Stmt:=(clsBody (top 20)).getD 10 (.Pass ⟨0,0,0,0⟩)
abbrev s_w_reach:Stmt:=(clsBody (top 20)).getD 11 (.Pass ⟨0,0,0,0⟩)
abbrev s_l_whole:Stmt:=top 22
abbrev s_l_wholes:Stmt:=top 32
abbrev s_l_way:Stmt:=top 25
abbrev s_l_far:Stmt:=top 29
abbrev s_l_is_so:Stmt:=top 33
abbrev s_l_is_far:Stmt:=top 26
abbrev s_l_thinned:Stmt:=top 27
abbrev s_l_come:Stmt:=top 28
abbrev s_law:Stmt:=top 35
def lamTab:List (Str×Lam):=[]
instance:Reg:=⟨fun t=>lamTab.lookup t⟩
def exNames:List Str:=["NoMany"]
def E_l_digits_0:Rho->Option PyData:=fun ρ=>bind2 ((ρ[1]?).join) ((ρ[0]?).join) ixD
def L_l_digits_1:Rho->Option Out:=seqF (fun ρ=>setO 5 ρ (bind2 (bind2 (bind2 (bind2 ((ρ[5]?).join) ((ρ[5]?).join) mulD) ((ρ[3]?).join) addD) (bind2 (some (.int 7919)) ((ρ[7]?).join) mulD) addD) (some (.int 2147483629)) modD)) (seqF (fun ρ=>condO (testD (bind2 ((ρ[6]?).join) (some (.int 0)) gtD)) ((bind2 ((ρ[6]?).join) (some (.int 1000003)) modD).bind (appD 4 ρ)) ((bind2 (bind2 (bind2 ((ρ[5]?).join) ((ρ[5]?).join) mulD) (some (.int 2147483587)) modD) (some (.int 1000003)) modD).bind (appD 4 ρ))) (fun ρ=>setO 6 ρ (bind2 ((ρ[6]?).join) (some (.int 1000003)) fdivD)))
def B_l_digits:Rho->Option Out:=seqF (fun ρ=>setO 3 ρ (((compO (setS 0) (fun _=>some true) E_l_digits_0 ((consD ((ρ[1]?).join) (consD ((consD ((consD ((ρ[0]?).join) (some [])).bind lenD) (consD (some (.int 63)) (some []))).bind minD) (consD ((ρ[2]?).join) (some [])))).bind rng3D) (frees 1 [0] ρ)).map .list).bind sumD)) (seqF (fun ρ=>setLO 4 ρ (shortL (some []))) (seqF (fun ρ=>setO 5 ρ (bind2 (bind2 (bind2 ((ρ[3]?).join) (some (.int 48271)) mulD) (some (.int 40503)) addD) (some (.int 2147483629)) modD)) (seqF (fun ρ=>setO 6 ρ (bind2 ((ρ[3]?).join) ((consD (bind2 ((ρ[3]?).join) (bind2 (some (.int 10)) (some (.int 18)) powD) geD) (some [])).bind intD) mulD)) (seqF (fun ρ=>forO (setS 7) L_l_digits_1 ((consD (some (.int 120)) (some [])).bind rng1D) ρ) (fun ρ=>(((((ρ[4]?).join).bind revD).filter lf.go).map .list).map .rt)))))
def F_l_digits:List PyData->Option PyData:=runD 3 5 B_l_digits
def B_l_place:Rho->Option Out:=seqI (fun ρ=>setEff 1 ((popD 0) ρ)) (seqI (fun ρ=>setEff 2 ((popD 0) ρ)) (fun ρ=>condO (testD (bind2 (bind2 ((ρ[1]?).join) (some (.int 16)) modD) (some (.int 1)) eqD)) ((retI 0 (fun ρ=>shortD .tuple (consD (bind2 (bind2 ((ρ[2]?).join) (bind2 (some (.int 10)) (some (.int 25)) powD) mulD) (bind2 (some (.int 5)) (bind2 (some (.int 10)) (some (.int 30)) powD) mulD) subD) (consD (bind2 (bind2 ((ρ[1]?).join) (bind2 (some (.int 10)) (some (.int 25)) powD) mulD) (bind2 (some (.int 5)) (bind2 (some (.int 10)) (some (.int 30)) powD) mulD) subD) (some []))))) ρ) ((seqI (fun ρ=>setO 3 ρ (veilF [0] (fun ρ=>bind2 ((shortL (consD (some (.int 3)) (consD (some (.int 10)) (consD (some (.int 100)) (consD (some (.int 1000)) (some [])))))).map .list) (bind2 (bind2 ((ρ[1]?).join) (some (.int 16)) fdivD) (some (.int 4)) modD) ixD) ρ)) (retI 0 (fun ρ=>shortD .tuple (consD (bind2 (bind2 (bind2 ((ρ[1]?).join) (some (.int 64)) fdivD) ((ρ[3]?).join) modD) (bind2 ((ρ[3]?).join) (some (.int 2)) fdivD) subD) (consD (bind2 (bind2 ((ρ[2]?).join) ((ρ[3]?).join) modD) (bind2 ((ρ[3]?).join) (some (.int 2)) fdivD) subD) (some [])))))) ρ)))
def FI_l_place:List PyData->Option (PyData×List PyData):=runI 1 3 B_l_place
def B_p_side_between:Rho->Option Out:=fun ρ=>((consD ((consD (bind2 (bind2 ((ρ[0]?).join) (some (.int 0)) ixD) (bind2 ((ρ[1]?).join) (some (.int 0)) ixD) subD) (some [])).bind absD) (consD ((consD (bind2 (bind2 ((ρ[0]?).join) (some (.int 1)) ixD) (bind2 ((ρ[1]?).join) (some (.int 1)) ixD) subD) (some [])).bind absD) (some []))).bind maxD).map .rt
def F_p_side_between:List PyData->Option PyData:=runD 2 0 B_p_side_between
def B_w_way_between:Rho->Option Out:=fun ρ=>((consD (bind2 (((ρ[0]?).join).bind (fldD "Watch" "places")) ((ρ[1]?).join) ixD) (consD (bind2 (((ρ[0]?).join).bind (fldD "Watch" "places")) ((ρ[2]?).join) ixD) (some []))).bind F_p_side_between).map .rt
def F_w_way_between:List PyData->Option PyData:=runD 3 0 B_w_way_between
def E_w_is_far_0:Rho->Option PyData:=fun ρ=>bind2 (callM "Watch" "way_between" F_w_way_between (fun ρ=>(ρ[1]?).join) (fun ρ=>consD ((ρ[2]?).join) (consD ((ρ[0]?).join) (some []))) ρ) (bind2 (some (.int 2)) (((ρ[1]?).join).bind (fldD "Watch" "last_mark")) mulD) gtD
def B_w_is_far:Rho->Option Out:=fun ρ=>(((compO (setS 0) (fun _=>some true) E_w_is_far_0 (((ρ[2]?).join).bind listD) (frees 1 [0,1] ρ)).map .list).bind allD).map .rt
def F_w_is_far:List PyData->Option PyData:=runD 3 0 B_w_is_far
def E_w_least_way_0:Rho->Option PyData:=fun ρ=>callM "Watch" "way_between" F_w_way_between (fun ρ=>(ρ[1]?).join) (fun ρ=>consD ((ρ[2]?).join) (consD ((ρ[0]?).join) (some []))) ρ
def L_w_least_way_1:Rho->Option Out:=fun ρ=>((compO (setS 0) (fun _=>some true) E_w_least_way_0 (((cutD (((ρ[0]?).join).bind (fldD "Watch" "chosen")) (some none) ((((ρ[2]?).join).bind intO).map some)).map .list).bind listD) (frees 1 [0,3] ρ)).filter lf.go).bind (extD 1 ρ)
def B_w_least_way:Rho->Option Out:=seqF (fun ρ=>setLO 1 ρ (shortL (some []))) (seqF (fun ρ=>forO (tupS 2 (consS (setS 2) (consS (setS 3) (nilS)))) L_w_least_way_1 (((((ρ[0]?).join).bind (fldD "Watch" "chosen")).bind listD).map enumL) ρ) (fun ρ=>(((ρ[1]?).join).bind minLD).map .rt))
def F_w_least_way:List PyData->Option PyData:=runD 1 3 B_w_least_way
def L_w_raise_mark_0:Rho->Option Out:=fun ρ=>condO (testD (callM "Watch" "is_far" F_w_is_far (fun ρ=>(ρ[0]?).join) (fun ρ=>consD ((ρ[2]?).join) (consD ((ρ[1]?).join) (some []))) ρ)) (((ρ[2]?).join).bind (appD 1 ρ)) (some (.nx ρ))
def B_w_raise_mark:Rho->Option Out:=looseF 2 (seqI (setFd 0 4 "Watch" ["many","places","chosen","last_mark","last_bar"] (fun ρ=>fldK 0 2 ρ)) (seqI (setFd 0 3 "Watch" ["many","places","chosen","last_mark","last_bar"] (fun ρ=>(callM "Watch" "least_way" F_w_least_way (fun ρ=>(ρ[0]?).join) (fun _=>some []) ρ).filter lf)) (seqI (fun ρ=>setLO 1 ρ (shortL (some []))) (seqI (fun ρ=>forO (setS 2) L_w_raise_mark_0 ((fldK 0 4 ρ).bind listD) ρ) (moveR 2 1 "Watch" ["many","places","chosen","last_mark","last_bar"])))))
def FR_w_raise_mark:List PyData->Option (PyData×PyData):=runRc 1 2 B_w_raise_mark
def W_w_come_0:Rho->Option Bool:=fun ρ=>testD (bind2 ((consD (((ρ[0]?).join).bind (fldD "Watch" "chosen")) (some [])).bind lenD) (((ρ[0]?).join).bind (fldD "Watch" "many")) gtD)
def L_w_come_1:Rho->Option Out:=methR 0 FR_w_raise_mark (fun _=>some [])
def B_w_come:Rho->Option Out:=seqI (fun ρ=>setO 3 ρ ((consD (((ρ[0]?).join).bind (fldD "Watch" "places")) (some [])).bind lenD)) (seqI (appFd 0 1 "Watch" ["many","places","chosen","last_mark","last_bar"] (fun ρ=>shortD .tuple (consD ((ρ[1]?).join) (consD ((ρ[2]?).join) (some []))))) (seqI (fun ρ=>condO (testD (callM "Watch" "is_far" F_w_is_far (fun ρ=>(ρ[0]?).join) (fun ρ=>consD ((ρ[3]?).join) (consD (((ρ[0]?).join).bind (fldD "Watch" "chosen")) (some []))) ρ)) ((appFd 0 2 "Watch" ["many","places","chosen","last_mark","last_bar"] (fun ρ=>(ρ[3]?).join)) ρ) (some (.nx ρ))) (seqI (fun ρ=>whileD W_w_come_0 L_w_come_1 ((fun ρ=>64) ρ) ρ) (retR (fun ρ=>(ρ[3]?).join)))))
def FR_w_come:List PyData->Option (PyData×PyData):=runRc 3 1 B_w_come
def BX_p_check_many:Rho->Option OutX:=fun ρ=>condO (testD (bind2 ((ρ[0]?).join) (some (.int 1)) ltD)) (some (.ex (excD "NoMany" []) ρ)) (some (.nx ρ))
def FX_p_check_many:List PyData->Option RX:=runX 1 0 BX_p_check_many
def F_p_check_many:List PyData->Option PyData:=pureX FX_p_check_many
def B_w_xinit:Rho->Option RN:=kSeq (fun ρ=>((consD ((ρ[1]?).join) (some [])).bind FX_p_check_many).map (kRX ρ)) (fun _=>none)
def FN_w_xinit:List PyData->Option RN:=runNX 2 0 B_w_xinit
def B_l_classes:Rho->Option Out:=seqF (fun ρ=>setO 1 ρ ((shortL (consD (((ρ[0]?).join).bind (isC exNames "NoMany")) (consD (((ρ[0]?).join).bind (isC exNames "NoPosts")) (consD (((ρ[0]?).join).bind (isC exNames "NoReach")) (consD (((ρ[0]?).join).bind (isC exNames "NoRing")) (some [])))))).map .list)) (seqF (fun ρ=>setO 1 ρ ((catL ((ρ[1]?).join) ((shortL (consD (((ρ[0]?).join).bind (isC exNames "NoLine")) (consD (((ρ[0]?).join).bind (isC exNames "NoWord")) (consD (((ρ[0]?).join).bind (isC exNames "NoFolk")) (some []))))).map .list)).map .list)) (seqF (fun ρ=>setO 1 ρ ((catL ((ρ[1]?).join) ((shortL (consD (((ρ[0]?).join).bind (isC exNames "NoPost")) (consD (((ρ[0]?).join).bind (isC exNames "NoTable")) (consD (((ρ[0]?).join).bind (isC exNames "NoWay")) (some []))))).map .list)).map .list)) (fun ρ=>((catL ((ρ[1]?).join) ((shortL (consD (((ρ[0]?).join).bind (isC exNames "NoThing")) (consD (((ρ[0]?).join).bind (isC exNames "NoText")) (consD (((ρ[0]?).join).bind (isC exNames "NoName")) (some []))))).map .list)).map .list).map .rt)))
def F_l_classes:List PyData->Option PyData:=runD 1 1 B_l_classes
def B_l_which:Rho->Option Out:=seqF (fun ρ=>condO (orB ((testD (((ρ[0]?).join).bind (isC exNames "ValueError"))).map not) (testD (bind2 (bind2 ((consD ((ρ[0]?).join) (some [])).bind F_l_classes) (some (.bool true)) countD) (some (.int 1)) neD))) (((some (.int 1)).bind negD).map .rt) (some (.nx ρ))) (fun ρ=>(bind2 ((consD ((ρ[0]?).join) (some [])).bind F_l_classes) (some (.bool true)) indexD).map .rt)
def F_l_which:List PyData->Option PyData:=runD 1 0 B_l_which
def H_l_refused_0:Rho->Option Out:=fun ρ=>setO 1 ρ ((ρ[2]?).join)
def B_l_refused:Rho->Option Out:=seqF (fun ρ=>setO 1 ρ (some .none)) (seqF (fun ρ=>tryF 2 exNames H_l_refused_0 (dropX ρ (newX "Watch" "many" "places" FN_w_xinit (consD ((ρ[0]?).join) (some []))))) (fun ρ=>(bind2 ((consD ((ρ[1]?).join) (some [])).bind F_l_which) (some (.int 0)) eqD).map .rt))
def F_l_refused:List PyData->Option PyData:=runD 1 2 B_l_refused
def B_w_init:Rho->Option Out:=seqI (fun ρ=>dropO ρ ((consD ((ρ[1]?).join) (some [])).bind F_p_check_many)) (newF "Watch" ["many"] (fun ρ=>(ρ[1]?).join) (newF "Watch" ["many","places"] (fun ρ=>(shortL (some [])).map .list) (newF "Watch" ["many","places","chosen"] (fun ρ=>(shortL (some [])).map .list) (newF "Watch" ["many","places","chosen","last_mark"] (fun ρ=>some (.int 0)) (newF "Watch" ["many","places","chosen","last_mark","last_bar"] (fun ρ=>some .none) (selfO .none))))))
def FR_w_init:List PyData->Option (PyData×PyData):=runRc 2 0 B_w_init
def B_w_folk:Rho->Option Out:=fun ρ=>(((((ρ[0]?).join).bind (fldD "Watch" "places")).bind seqD).map .list).map .rt
def F_w_folk:List PyData->Option PyData:=runD 1 0 B_w_folk
def B_w_posts:Rho->Option Out:=fun ρ=>(((((ρ[0]?).join).bind (fldD "Watch" "chosen")).bind seqD).map .list).map .rt
def F_w_posts:List PyData->Option PyData:=runD 1 0 B_w_posts
def B_w_bar:Rho->Option Out:=fun ρ=>(condO (testD (bind2 (((ρ[0]?).join).bind (fldD "Watch" "last_bar")) (some .none) isNoneD)) (some .none) (((((ρ[0]?).join).bind (fldD "Watch" "last_bar")).bind seqD).map .list)).map .rt
def F_w_bar:List PyData->Option PyData:=runD 1 0 B_w_bar
def B_w_mark:Rho->Option Out:=fun ρ=>(((ρ[0]?).join).bind (fldD "Watch" "last_mark")).map .rt
def F_w_mark:List PyData->Option PyData:=runD 1 0 B_w_mark
def E_w_way_to_post_0:Rho->Option PyData:=fun ρ=>callM "Watch" "way_between" F_w_way_between (fun ρ=>(ρ[1]?).join) (fun ρ=>consD ((ρ[2]?).join) (consD ((ρ[0]?).join) (some []))) ρ
def B_w_way_to_post:Rho->Option Out:=fun ρ=>(((compO (setS 0) (fun _=>some true) E_w_way_to_post_0 ((((ρ[0]?).join).bind (fldD "Watch" "chosen")).bind listD) (frees 1 [0,1] ρ)).map .list).bind minLD).map .rt
def F_w_way_to_post:List PyData->Option PyData:=runD 2 0 B_w_way_to_post
def E_w_reach_0:Rho->Option PyData:=fun ρ=>callM "Watch" "way_to_post" F_w_way_to_post (fun ρ=>(ρ[1]?).join) (fun ρ=>consD ((ρ[0]?).join) (some [])) ρ
def B_w_reach:Rho->Option Out:=fun ρ=>(((compO (setS 0) (fun _=>some true) E_w_reach_0 ((consD ((consD (((ρ[0]?).join).bind (fldD "Watch" "places")) (some [])).bind lenD) (some [])).bind rng1D) (frees 1 [0] ρ)).map .list).bind (maxDf 0)).map .rt
def F_w_reach:List PyData->Option PyData:=runD 1 0 B_w_reach
def B_l_whole:Rho->Option Out:=fun ρ=>(andV (((ρ[0]?).join).bind (isD "int")) (notV (((ρ[0]?).join).bind (isD "bool")))).map .rt
def F_l_whole:List PyData->Option PyData:=runD 1 0 B_l_whole
def I_l_wholes_0:Rho->Option Bool:=fun ρ=>(testD ((consD ((ρ[0]?).join) (some [])).bind F_l_whole)).map not
def E_l_wholes_1:Rho->Option PyData:=fun ρ=>(ρ[0]?).join
def B_l_wholes:Rho->Option Out:=fun ρ=>(andV (((ρ[0]?).join).bind (isD "list")) (bind2 ((compO (setS 0) I_l_wholes_0 E_l_wholes_1 (((ρ[0]?).join).bind listD) (frees 1 [] ρ)).map .list) ((shortL (some [])).map .list) eqD)).map .rt
def F_l_wholes:List PyData->Option PyData:=runD 1 0 B_l_wholes
def B_l_way:Rho->Option Out:=seqF (fun ρ=>asgO (tupS 2 (consS (setS 3) (consS (setS 4) (nilS)))) ρ (bind2 (((ρ[0]?).join).bind (dgetD "folk")) ((ρ[1]?).join) ixD)) (seqF (fun ρ=>asgO (tupS 2 (consS (setS 5) (consS (setS 6) (nilS)))) ρ (bind2 (((ρ[0]?).join).bind (dgetD "folk")) ((ρ[2]?).join) ixD)) (fun ρ=>((consD ((consD (bind2 ((ρ[3]?).join) ((ρ[5]?).join) subD) (some [])).bind absD) (consD ((consD (bind2 ((ρ[4]?).join) ((ρ[6]?).join) subD) (some [])).bind absD) (some []))).bind maxD).map .rt))
def F_l_way:List PyData->Option PyData:=runD 3 4 B_l_way
def E_l_far_0:Rho->Option PyData:=fun ρ=>(consD ((ρ[1]?).join) (consD ((ρ[2]?).join) (consD ((ρ[0]?).join) (some [])))).bind F_l_way
def L_l_far_1:Rho->Option Out:=fun ρ=>setO 1 ρ ((consD ((ρ[1]?).join) (consD (((compO (setS 0) (fun _=>some true) E_l_far_0 ((((ρ[0]?).join).bind (dgetD "posts")).bind listD) (frees 1 [0,2] ρ)).map .list).bind minLD) (some []))).bind maxD)
def B_l_far:Rho->Option Out:=seqF (fun ρ=>setO 1 ρ (some (.int 0))) (seqF (fun ρ=>forO (setS 2) L_l_far_1 ((consD ((consD (((ρ[0]?).join).bind (dgetD "folk")) (some [])).bind lenD) (some [])).bind rng1D) ρ) (fun ρ=>((ρ[1]?).join).map .rt))
def F_l_far:List PyData->Option PyData:=runD 1 2 B_l_far
def L_l_is_so_0:Rho->Option Out:=fun ρ=>condO (orB ((testD (((ρ[3]?).join).bind (isD "tuple"))).map not) (orB ((testD ((consD (bind2 ((ρ[3]?).join) (some (.int 0)) ixD) (some [])).bind F_l_whole)).map not) ((testD ((consD (bind2 ((ρ[3]?).join) (some (.int 1)) ixD) (some [])).bind F_l_whole)).map not))) ((some (.bool false)).map .rt) (some (.nx ρ))
def B_l_is_so:Rho->Option Out:=seqF (fun ρ=>setO 2 ρ (callM "Watch" "folk" F_w_folk (fun ρ=>(ρ[0]?).join) (fun _=>some []) ρ)) (seqF (fun ρ=>condO (orB ((testD (((ρ[2]?).join).bind (isD "list"))).map not) (orB (testD (bind2 ((ρ[2]?).join) (((ρ[1]?).join).bind (dgetD "folk")) neD)) (testD (bind2 (((ρ[0]?).join).bind (fldD "Watch" "many")) (((ρ[1]?).join).bind (dgetD "many")) neD)))) ((some (.bool false)).map .rt) (some (.nx ρ))) (seqF (fun ρ=>forL 2 (setS 3) L_l_is_so_0 1001 0 ρ) (seqF (fun ρ=>setO 4 ρ ((callM "Watch" "posts" F_w_posts (fun ρ=>(ρ[0]?).join) (fun _=>some []) ρ).bind fun x=>(callM "Watch" "bar" F_w_bar (fun ρ=>(ρ[0]?).join) (fun _=>some []) ρ).map fun y=>.list [x,y])) (seqF (fun ρ=>condO (orB ((testD ((consD (bind2 ((ρ[4]?).join) (some (.int 0)) ixD) (some [])).bind F_l_wholes)).map not) (testD (bind2 ((ρ[4]?).join) ((shortL (consD (((ρ[1]?).join).bind (dgetD "posts")) (consD (((ρ[1]?).join).bind (dgetD "bar")) (some [])))).map .list) neD))) ((some (.bool false)).map .rt) (some (.nx ρ))) (seqF (fun ρ=>condO (andB (testD (bind2 (bind2 ((ρ[4]?).join) (some (.int 1)) ixD) (some .none) isntNoneD)) ((testD ((consD (bind2 ((ρ[4]?).join) (some (.int 1)) ixD) (some [])).bind F_l_wholes)).map not)) ((some (.bool false)).map .rt) (some (.nx ρ))) (seqF (appsF 4 2 5) (seqF (fun ρ=>setO 6 ρ ((shortL (consD ((callM "Watch" "mark" F_w_mark (fun ρ=>(ρ[0]?).join) (fun _=>some []) ρ).filter lf) (consD ((callM "Watch" "reach" F_w_reach (fun ρ=>(ρ[0]?).join) (fun _=>some []) ρ).filter lf) (some [])))).map .list)) (fun ρ=>(andV ((consD ((ρ[6]?).join) (some [])).bind F_l_wholes) (bind2 ((ρ[6]?).join) ((shortL (consD (((ρ[1]?).join).bind (dgetD "mark")) (consD ((consD ((ρ[1]?).join) (some [])).bind F_l_far) (some [])))).map .list) eqD)).map .rt))))))))
def F_l_is_so:List PyData->Option PyData:=runD 2 5 B_l_is_so
def I_l_is_far_0:Rho->Option Bool:=fun ρ=>testD (bind2 ((consD ((ρ[1]?).join) (consD ((ρ[2]?).join) (consD ((ρ[0]?).join) (some [])))).bind F_l_way) (bind2 (some (.int 2)) (((ρ[1]?).join).bind (dgetD "mark")) mulD) leD)
def E_l_is_far_1:Rho->Option PyData:=fun ρ=>(ρ[0]?).join
def B_l_is_far:Rho->Option Out:=fun ρ=>(bind2 ((compO (setS 0) I_l_is_far_0 E_l_is_far_1 (((ρ[2]?).join).bind listD) (frees 1 [0,1] ρ)).map .list) ((shortL (some [])).map .list) eqD).map .rt
def F_l_is_far:List PyData->Option PyData:=runD 3 0 B_l_is_far
def L_l_thinned_0:Rho->Option Out:=fun ρ=>condO (testD ((consD ((ρ[0]?).join) (consD ((ρ[4]?).join) (consD ((ρ[3]?).join) (some [])))).bind F_l_is_far)) (setO 3 ρ ((catL ((ρ[3]?).join) ((shortL (consD ((ρ[4]?).join) (some []))).map .list)).map .list)) (some (.nx ρ))
def E_l_thinned_1:Rho->Option PyData:=fun ρ=>(consD ((ρ[1]?).join) (consD (bind2 (((ρ[1]?).join).bind (dgetD "posts")) ((ρ[2]?).join) ixD) (consD ((ρ[0]?).join) (some [])))).bind F_l_way
def L_l_thinned_2:Rho->Option Out:=fun ρ=>setO 1 ρ ((catL ((ρ[1]?).join) (((compO (setS 0) (fun _=>some true) E_l_thinned_1 (((cutD (((ρ[0]?).join).bind (dgetD "posts")) (some none) ((((ρ[2]?).join).bind intO).map some)).map .list).bind listD) (frees 1 [0,2] ρ)).filter lf.go).map .list)).map .list)
def B_l_thinned:Rho->Option Out:=seqI (fun ρ=>setO 1 ρ ((shortL (some [])).map .list)) (seqI (fun ρ=>forO (setS 2) L_l_thinned_2 ((consD ((consD (((ρ[0]?).join).bind (dgetD "posts")) (some [])).bind lenD) (some [])).bind rng1D) ρ) (seqI (dputF 0 "mark" (fun ρ=>((ρ[1]?).join).bind minLD)) (seqI (dputF 0 "bar" (fun ρ=>((ρ[0]?).join).bind (dgetD "posts"))) (seqI (fun ρ=>setO 3 ρ ((shortL (some [])).map .list)) (seqI (fun ρ=>forO (setS 4) L_l_thinned_0 ((((ρ[0]?).join).bind (dgetD "posts")).bind listD) ρ) (seqI (dputF 0 "posts" (fun ρ=>(ρ[3]?).join)) (selfOD .none)))))))
def FR_l_thinned:List PyData->Option (PyData×PyData):=runRc 1 4 B_l_thinned
def B_l_come:Rho->Option Out:=seqI (fun ρ=>setO 2 ρ ((consD (((ρ[0]?).join).bind (dgetD "folk")) (some [])).bind lenD)) (seqI (dputF 0 "folk" (fun ρ=>(catL (((ρ[0]?).join).bind (dgetD "folk")) ((shortL (consD ((ρ[1]?).join) (some []))).map .list)).map .list)) (seqI (fun ρ=>condO (testD ((consD ((ρ[0]?).join) (consD ((ρ[2]?).join) (consD (((ρ[0]?).join).bind (dgetD "posts")) (some [])))).bind F_l_is_far)) ((dputF 0 "posts" (fun ρ=>(catL (((ρ[0]?).join).bind (dgetD "posts")) ((shortL (consD ((ρ[2]?).join) (some []))).map .list)).map .list)) ρ) (some (.nx ρ))) (seqI (fun ρ=>condO (testD (bind2 ((consD (((ρ[0]?).join).bind (dgetD "posts")) (some [])).bind lenD) (((ρ[0]?).join).bind (dgetD "many")) gtD)) ((callDst 0 FR_l_thinned) ρ) (some (.nx ρ))) (retDc (fun ρ=>(ρ[2]?).join)))))
def FR_l_come:List PyData->Option (PyData×PyData):=runRc 2 1 B_l_come
def L_law_0:Rho->Option Out:=seqF (fun ρ=>setEff 5 ((popD 1) ρ)) (seqF (fun ρ=>setO 6 ρ ((bind2 ((shortL (consD (bind2 (some (.int 1)) (bind2 (bind2 ((ρ[5]?).join) (some (.int 8)) fdivD) (some (.int 5)) modD) addD) (consD (bind2 (bind2 (some (.int 10)) (some (.int 29)) powD) ((ρ[5]?).join) addD) (some [])))).map .list) ((consD (bind2 (bind2 ((ρ[5]?).join) (some (.int 8)) modD) (some (.int 7)) eqD) (some [])).bind intD) ixD).filter lf)) (seqF (fun ρ=>(newW "Watch" FR_w_init (consD ((ρ[6]?).join) (some []))).bind (appD 2 ρ)) (fun ρ=>((consD ((ρ[6]?).join) (consD ((shortL (some [])).map .list) (consD ((shortL (some [])).map .list) (consD (some (.int 0)) (consD (some .none) (some [])))))).map (mkDct [.str (Str.ofString "many"),.str (Str.ofString "folk"),.str (Str.ofString "posts"),.str (Str.ofString "mark"),.str (Str.ofString "bar")])).bind (appD 3 ρ))))
def L_law_1:Rho->Option Out:=seqF (fun ρ=>setEff 4 ((intX (opL eqD (opL modD (popD 1) (fun ρ=>some (.int 3))) (fun ρ=>some (.int 0)))) ρ)) (seqF (fun ρ=>setEff 8 ((callI0 1 FI_l_place) ρ)) (seqF (setMix 9 2 (fun ρ=>(ρ[4]?).join) FR_w_come (fun ρ=>consD ((bind2 ((ρ[8]?).join) (some (.int 0)) ixD).filter lf) (consD ((bind2 ((ρ[8]?).join) (some (.int 1)) ixD).filter lf) (some [])))) (seqF (fun ρ=>ifX (orX2 (fun ρ=>(testD ((consD ((ρ[9]?).join) (some [])).bind F_l_whole)).map not) (fun ρ=>testX (opR neD (fun ρ=>(ρ[9]?).join) (callDix 3 (fun ρ=>(ρ[4]?).join) FR_l_come (fun ρ=>consD ((ρ[8]?).join) (some []))) ρ)) ρ) (fun ρ=>(some (.bool false)).map .rt) (fun ρ=>some (.nx ρ))) (fun ρ=>condO ((testD ((consD (bind2 ((ρ[2]?).join) ((ρ[4]?).join) ixD) (consD (bind2 ((ρ[3]?).join) ((ρ[4]?).join) ixD) (some []))).bind F_l_is_so)).map not) ((some (.bool false)).map .rt) (some (.nx ρ))))))
def L_law_2:Rho->Option Out:=fun ρ=>condO (orB ((testD ((consD (bind2 ((ρ[2]?).join) ((ρ[4]?).join) ixD) (consD (bind2 ((ρ[3]?).join) ((ρ[4]?).join) ixD) (some []))).bind F_l_is_so)).map not) ((testD ((consD (bind2 ((ρ[2]?).join) ((ρ[4]?).join) ixD) (consD (bind2 ((ρ[3]?).join) ((ρ[4]?).join) ixD) (some []))).bind F_l_is_so)).map not)) ((some (.bool false)).map .rt) (some (.nx ρ))
def B_law:Rho->Option Out:=seqF (fun ρ=>setO 1 ρ ((consD ((ρ[0]?).join) (consD (some (.int 0)) (consD (some (.int 2)) (some [])))).bind F_l_digits)) (seqF (fun ρ=>setO 2 ρ (some (.list []))) (seqF (fun ρ=>setO 3 ρ (some (.list []))) (seqF (fun ρ=>forO (setS 4) L_law_0 ((consD (some (.int 2)) (some [])).bind rng1D) ρ) (seqF (fun ρ=>forEff (setS 7) L_law_1 ((opL modD (popD 1) (fun ρ=>some (.int 37))) ρ)) (seqF (fun ρ=>forO (setS 4) L_law_2 ((consD (some (.int 2)) (some [])).bind rng1D) ρ) (fun ρ=>(andV ((consD (some (.int 0)) (some [])).bind F_l_refused) (andV ((consD ((some (.int 1)).bind negD) (some [])).bind F_l_refused) ((consD ((bind2 (some (.int 10)) (some (.int 29)) powD).bind negD) (some [])).bind F_l_refused))).map .rt))))))
def F_law:List PyData->Option PyData:=runD 1 9 B_law
end NW
namespace NW
open L2
local macro_rules | `(tactic| walk_at "ev")=>`(tactic| try simp only[runD,seqF_def,thenO_nx,thenO_rt,List.length_cons,List.length_nil,Nat.reduceAdd,reduceIte,List.map_cons,List.map_nil,List.reduceReplicate,List.append_nil,List.nil_append,List.cons_append,List.getElem?_cons_zero,List.getElem?_cons_succ,List.set_cons_zero,List.set_cons_succ,Option.join_some,Option.bind_some,Option.map_some,Option.filter_some,consD_ss,testD_s,condO_t,condO_f,andB_t,andB_f,orB_t,orB_f,andV_t,andV_f,orV_t,orV_f,notV_s,setO_s,setLO_s,dropO_s,forO_s,asgO_s,bind2_ss,addD_ok,subD_ok,ltD_ok,leD_ok,gtD_ok,geD_ok,eqD_int,neD_int,ix_pair0,ix_pair1,setS,negD,lenD_l,lenD_t,listD_l,tupD_t,seqD_l,short2,shortL0,shortL1,shortL2,shortL3,shortL4,outD_rt,outD_nx,Bool.not_true,Bool.not_false])
theorem eqv_ints2:∀ xs ys:List Int,PyData.eqvAll (xs.map PyData.int) (ys.map PyData.int)=decide (xs=ys)
 | [],[]=>rfl
 | [],y::r=>by simp[PyData.eqvAll]
 | x::r,[]=>by simp[PyData.eqvAll]
 | x::r,y::s=>by
  rw[List.map_cons,List.map_cons,PyData.eqvAll,eqv_ints2 r s]
  simp[PyData.eqv]
  by_cases h:x=y <;> by_cases h2:r=s <;> simp[h,h2]
theorem lay_ints:∀ xs:List Int,PyData.canLayAll0 (xs.map PyData.int)=true∧PyData.depthAll (xs.map PyData.int)≤1
 | []=>⟨rfl,by simp[PyData.depthAll]⟩
 | x::r=>by
  obtain⟨h1,h2⟩:=lay_ints r
  refine⟨by rw[List.map_cons,PyData.canLayAll0,h1];rfl,?_⟩
  rw[List.map_cons,PyData.depthAll]
  simp only[PyData.depth]
  omega
theorem shaped_ints (xs:List Int):SeqAt.shaped (.list (xs.map PyData.int))=true:=by
 obtain⟨h1,h2⟩:=lay_ints xs
 simp[SeqAt.shaped,PyData.canLay0,PyData.depth,h1]
 omega
theorem eqD_ints (xs ys:List Int):eqD (.list (xs.map .int)) (.list (ys.map .int))=some (.bool (decide (xs=ys))):=by
 simp only[eqD,shaped_ints,Bool.and_self,if_true,PyData.eqv,eqv_ints2]
theorem lf_zs:∀ zs:List Int,lf.go (zs.map PyData.int)=true
 | []=>rfl
 | z::r=>by rw[List.map_cons,lf.go,lf_zs r];rfl
theorem mulD_s2 {a b:Int}(hb:b.natAbs<2 ^ 63):mulD (.int a) (.int b)=some (.int (a*b)):=by
 have:isS b=true:=decide_eq_true hb
 simp[mulD,int2C,intO,this]
theorem mulD_s1 {a b:Int}(ha:a.natAbs<2 ^ 63):mulD (.int a) (.int b)=some (.int (a*b)):=by
 have:isS a=true:=decide_eq_true ha
 simp[mulD,int2C,intO,this]
theorem rng3_ok {i j:Int}(h1:i.natAbs<2 ^ 60)(h2:j.natAbs<2 ^ 60):rng3D [.int i,.int j,.int 2]=some (rngL2 i ((j - i+1) / 2).toNat):=by
 refine (show (if (decide (i.natAbs<2 ^ 60)&&(decide (j.natAbs<2 ^ 60)&&decide ((2:Int)=2)))=true then some (rngL2 i ((j - i+1) / 2).toNat) else none)=_ from if_pos ?_)
 rw[decide_eq_true h1,decide_eq_true h2]
 rfl
theorem seqF_nx {F G:Rho->Option Out}{ρ ρ':Rho}(h:F ρ=some (.nx ρ')):seqF F G ρ=G ρ':=by
 unfold seqF
 rw[h]
 rfl
theorem forD_tr {S:PyData->Rho->Option Rho}{F:Rho->Option Out}{α:Type}(P:Nat->α->Prop)(l:Nat->α->(Nat->Option PyData)->Rho)(ds:List PyData)(x0:α)(t0:Nat->Option PyData)(h0:P 0 x0)
  (step:∀ i d x t,ds[i]?=some d->P i x->∃ x' t',P (i+1) x'∧(S d (l i x t)).bind F=some (.nx (l (i+1) x' t'))) :
  ∃ x t,P ds.length x∧forD S F ds (l 0 x0 t0)=some (.nx (l ds.length x t)):=by
 obtain⟨ρ',e,x,t,h1,h2⟩:=forD_inv (S:=S) (F:=F) (fun k ρ=>∃ x t,P k x∧ρ=l k x t) ds 0 _ ⟨x0,t0,h0,rfl⟩ (by
  rintro i d ρ hd ⟨x,t,h1,rfl⟩
  rw[Nat.zero_add] at h1 ⊢
  obtain⟨x',t',h2,h3⟩:=step i d x t hd h1
  obtain⟨ρ1,h4,h5⟩:=bind_some h3
  exact⟨ρ1,_,h4,h5,x',t',h2,rfl⟩)
 rw[Nat.zero_add] at h1 h2
 exact⟨x,t,h1,by rw[e,h2]⟩
theorem rl_len (n:Nat):(rngL 0 n).length=n:=by unfold rngL;rw[List.length_map,List.length_range]
theorem forD_rng {k:Nat}{F:Rho->Option Out}{α:Type}(P:Nat->α->Prop)(l:Nat->α->(Nat->Option PyData)->Rho)(n:Nat)(x0:α)(t0:Nat->Option PyData)(h0:P 0 x0)
  (step:∀ i x t,i<n->P i x->∃ x' t',P (i+1) x'∧F ((l i x t).set k (some (.int (i:Nat))))=some (.nx (l (i+1) x' t'))) :
  ∃ x t,P n x∧forD (setS k) F (rngL 0 n) (l 0 x0 t0)=some (.nx (l n x t)):=by
 have h:=forD_tr (S:=setS k) (F:=F) P l (rngL 0 n) x0 t0 h0 fun i d x t hd hx=>by
  obtain⟨hi,rfl⟩:=rngL_get hd
  exact step i x t hi hx
 rw[rl_len] at h
 exact h
abbrev tr2 (a b:Option PyData):Nat->Option PyData:=fun j=>[a,b].getD j none
def dgOk (ds:List Int):Prop:=∀ d∈ds,0≤d∧d<1000003
theorem unit_eq (ns:List Int)(a:Nat)(hl:ns.length≤63)(ha:a≤1) :
  ∃ S:Int,((compO (setS 0) (fun _=>some true) E_l_digits_0 (rng3D [.int (a:Nat),.int (if (63:Int)<(ns.length:Nat) then 63 else (ns.length:Nat)),.int 2]) [none,some (.list (ns.map .int))]).map .list).bind sumD=some (.int S):=by
 have hm:(if (63:Int)<(ns.length:Nat) then 63 else ((ns.length:Nat):Int))=(ns.length:Nat):=if_neg (by omega)
 rw[hm,rng3_ok (by omega) (by omega)]
 have hlt:∀ i,i<((((ns.length:Nat):Int) - (a:Nat)+1) / 2).toNat->a+2*i<ns.length:=fun i hi=>by clear hm;omega
 have hn:((((ns.length:Nat):Int) - (a:Nat)+1) / 2).toNat≤1000:=by clear hm hlt;omega
 generalize ((((ns.length:Nat):Int) - (a:Nat)+1) / 2).toNat=n at hlt hn
 refine⟨((List.range n).map fun i=>ns.getD (a+2*i) 0).sum,?_⟩
 rw[compO_s (show (rngL2 (a:Nat) n).length≤1000 by unfold rngL2;rw[List.length_map,List.length_range];exact hn),show rngL2 (a:Nat) n=(List.range n).map (fun i:Nat=>PyData.int ((a:Nat)+(i:Nat)*2)) from rfl,compD_map (S:=setS 0) (fe:=E_l_digits_0) (fun i:Nat=>PyData.int ((a:Nat)+(i:Nat)*2)) PyData.int (fun i:Nat=>ns.getD (a+2*i) 0) (fun ρ=>∃ c,ρ=[c,some (.list (ns.map .int))]) (fun i=>a+2*i<ns.length) (fun i ρ hi ⟨c,e⟩=>⟨[some (.int ((a:Nat)+(i:Nat)*2)),some (.list (ns.map .int))],by rw[e];rfl,⟨_,rfl⟩,by
  show atI (ns.map PyData.int) _=_
  rw[show (((a:Nat):Int)+(i:Nat)*2)=((a+2*i:Nat):Int) by omega]
  refine atI_nat ?_
  rw[List.getElem?_map,List.getElem?_eq_getElem hi,List.getD_eq_getElem?_getD,List.getElem?_eq_getElem hi]
  rfl⟩) (List.range n) [none,some (.list (ns.map .int))] ⟨_,rfl⟩ (fun i hi=>hlt i (List.mem_range.mp hi))]
 show (intsO _).map _=_
 rw[intsO_map]
 rfl
def nxF (S first:Int)(k:Nat):Int:=(first*first+S+7919*(k:Nat)) % 2147483629
def nxD (rest f:Int):Int:=if 0<rest then rest % 1000003 else f*f % 2147483587 % 1000003
theorem nxF_ok (S first:Int)(k:Nat):0≤nxF S first k∧nxF S first k<2147483629:=⟨Int.emod_nonneg _ (by decide),Int.emod_lt_of_pos _ (by decide)⟩
theorem nxD_ok (rest f:Int):0≤nxD rest f∧nxD rest f<1000003:=by
 unfold nxD
 split
 ·exact⟨Int.emod_nonneg _ (by decide),Int.emod_lt_of_pos _ (by decide)⟩
 ·exact⟨Int.emod_nonneg _ (by decide),Int.emod_lt_of_pos _ (by decide)⟩
theorem abs_small {f:Int}(h:0≤f∧f<2147483629):f.natAbs<2 ^ 63:=by omega
theorem dig_step (s a p:Option PyData)(S first rest:Int)(ds:List Int)(k:Nat)(hf:0≤first∧first<2147483629)(hl:ds.length<900) :
  L_l_digits_1 [s,a,p,some (.int S),some (.list (ds.map .int)),some (.int first),some (.int rest),some (.int (k:Nat))]=some (.nx [s,a,p,some (.int S),some (.list ((ds++[nxD rest (nxF S first k)]).map .int)),some (.int (nxF S first k)),some (.int (rest / 1000003)),some (.int (k:Nat))]):=by
 have ap:∀ (d:Int) (x5 x6:Option PyData),appD 4 [s,a,p,some (.int S),some (.list (ds.map .int)),x5,x6,some (.int (k:Nat))] (.int d)=some (.nx [s,a,p,some (.int S),some (.list ((ds++[d]).map .int)),x5,x6,some (.int (k:Nat))]):=fun d x5 x6=>by
  show (if decide ((ds.map PyData.int).length<1000)=true then some (Out.nx [s,a,p,some (.int S),some (.list (ds.map PyData.int++[.int d])),x5,x6,some (.int (k:Nat))]) else none)=_
  rw[if_pos (decide_eq_true (by rw[List.length_map];omega)),List.map_append]
  rfl
 unfold L_l_digits_1
 rw[seqF_nx (ρ':=[s,a,p,some (.int S),some (.list (ds.map .int)),some (.int (nxF S first k)),some (.int rest),some (.int (k:Nat))]) ?a1]
 case a1=>
  show setO 5 _ (bind2 (bind2 (bind2 (mulD (.int first) (.int first)) (some (.int S)) addD) (mulD (.int 7919) (.int (k:Nat))) addD) (some (.int 2147483629)) modD)=_
  rw[mulD_s1 (abs_small hf),mulD_s1 (by decide)]
  exact congrArg (setO 5 _) (modD_ok (b:=2147483629) (by decide))
 rw[seqF_nx (ρ':=[s,a,p,some (.int S),some (.list ((ds++[nxD rest (nxF S first k)]).map .int)),some (.int (nxF S first k)),some (.int rest),some (.int (k:Nat))]) ?a2]
 case a2=>
  show condO (some (decide (0<rest))) ((modD (.int rest) (.int 1000003)).bind (appD 4 _)) ((bind2 (bind2 (mulD (.int (nxF S first k)) (.int (nxF S first k))) (some (.int 2147483587)) modD) (some (.int 1000003)) modD).bind (appD 4 _))=_
  unfold nxD
  by_cases h:0<rest
  ·rw[decide_eq_true h,if_pos h,modD_ok (by decide)]
   exact ap _ _ _
  ·rw[decide_eq_false h,if_neg h]
   show (bind2 (bind2 (mulD (.int (nxF S first k)) (.int (nxF S first k))) (some (.int 2147483587)) modD) (some (.int 1000003)) modD).bind (appD 4 _)=_
   rw[mulD_s1 (abs_small (nxF_ok S first k)),bind2_ss,modD_ok (by decide),bind2_ss,modD_ok (by decide)]
   exact ap _ _ _
 show setO 6 _ (fdivD (.int rest) (.int 1000003))=_
 rw[fdivD_ok (by decide) rfl]
 rfl
theorem digits_eq (ns:List Int)(a:Nat)(hl:ns.length≤63)(ha:a≤1):∃ ds:List Int,ds.length=120∧dgOk ds∧F_l_digits [.list (ns.map .int),.int (a:Nat),.int 2]=some (.list (ds.map .int)):=by
 obtain⟨S,eS⟩:=unit_eq ns a hl ha
 obtain⟨x,t,h,e⟩:=forD_rng (k:=7) (F:=L_l_digits_1) (α:=List Int×Int×Int) (fun i x=>x.1.length=i∧dgOk x.1∧(0≤x.2.1∧x.2.1<2147483629)) (fun _ x t=>[some (.list (ns.map .int)),some (.int (a:Nat)),some (.int 2),some (.int S),some (.list (x.1.map .int)),some (.int x.2.1),some (.int x.2.2),t 0])
  120 ([],(S*48271+40503) % 2147483629,S*(if (10 ^ 18:Int)≤S then 1 else 0)) (fun _=>none) ⟨rfl,fun d hd=>absurd hd List.not_mem_nil,Int.emod_nonneg _ (by decide),Int.emod_lt_of_pos _ (by decide)⟩ fun i x t hi h=>
   ⟨(x.1++[nxD x.2.2 (nxF S x.2.1 i)],nxF S x.2.1 i,x.2.2 / 1000003),fun _=>some (.int (i:Nat)),⟨by rw[List.length_append,h.1];rfl,fun y hy=>(List.mem_append.mp hy).elim (h.2.1 y) fun z=>List.mem_singleton.mp z▸nxD_ok _ _,nxF_ok _ _ _⟩,dig_step _ _ _ S x.2.1 x.2.2 x.1 i h.2.2 (by rw[h.1];omega)⟩
 refine⟨x.1.reverse,by rw[List.length_reverse,h.1],fun d hd=>h.2.1 d (List.mem_reverse.mp hd),?_⟩
 have q:B_l_digits [some (.list (ns.map .int)),some (.int (a:Nat)),some (.int 2),none,none,none,none,none]=some (.rt (.list (x.1.reverse.map .int))):=by
  unfold B_l_digits
  rw[seqF_nx (ρ':=[some (.list (ns.map .int)),some (.int (a:Nat)),some (.int 2),some (.int S),none,none,none,none]) ?s1]
  case s1=>
   show setO 3 _ (((compO (setS 0) (fun _=>some true) E_l_digits_0 (rng3D [.int (a:Nat),.int (if (63:Int)<((ns.map PyData.int).length:Nat) then 63 else ((ns.map PyData.int).length:Nat)),.int 2]) [none,some (.list (ns.map .int))]).map .list).bind sumD)=_
   rw[List.length_map,eS]
   rfl
  rw[seqF_nx (ρ':=[some (.list (ns.map .int)),some (.int (a:Nat)),some (.int 2),some (.int S),some (.list []),none,none,none]) rfl]
  rw[seqF_nx (ρ':=[some (.list (ns.map .int)),some (.int (a:Nat)),some (.int 2),some (.int S),some (.list []),some (.int ((S*48271+40503) % 2147483629)),none,none]) ?s3]
  case s3=>
   show setO 5 _ (bind2 (bind2 (mulD (.int S) (.int 48271)) (some (.int 40503)) addD) (some (.int 2147483629)) modD)=_
   rw[mulD_s2 (by decide)]
   exact congrArg (setO 5 _) (modD_ok (b:=2147483629) (by decide))
  rw[seqF_nx (ρ':=[some (.list (ns.map .int)),some (.int (a:Nat)),some (.int 2),some (.int S),some (.list []),some (.int ((S*48271+40503) % 2147483629)),some (.int (S*(if (10 ^ 18:Int)≤S then 1 else 0))),none]) ?s4]
  case s4=>
   show setO 6 _ (mulD (.int S) (.int (if decide ((10 ^ 18:Int)≤S)=true then 1 else 0)))=_
   rw[mulD_s2 (by split <;> decide)]
   by_cases h:(10 ^ 18:Int)≤S
   ·rw[decide_eq_true h,if_pos h];rfl
   ·rw[decide_eq_false h,if_neg h];rfl
  rw[seqF_nx (ρ':=[some (.list (ns.map .int)),some (.int (a:Nat)),some (.int 2),some (.int S),some (.list (x.1.map .int)),some (.int x.2.1),some (.int x.2.2),t 0]) ?s5]
  case s5=>exact e
  show ((((some (x.1.map PyData.int).reverse).filter lf.go).map PyData.list).map Out.rt)=_
  rw[← List.map_reverse,filt (lf_zs _)]
  rfl
 show outD (B_l_digits [some (.list (ns.map .int)),some (.int (a:Nat)),some (.int 2),none,none,none,none,none])=_
 rw[q]
 rfl
theorem pop_i {i:Nat}{ps:List Int}(h:ps≠[]){ρ:Rho}(hρ:(ρ[i]?).join=some (.list (ps.map .int))):popD i ρ=some (.int (ps.getLast h),ρ.set i (some (.list (ps.dropLast.map .int)))):=by
 unfold popD
 rw[hρ,Option.bind_some]
 show (some (ps.map PyData.int)).bind _=_
 rw[Option.bind_some,List.getLast?_map,List.getLast?_eq_some_getLast h,Option.map_some,Option.map_some,List.map_dropLast]
theorem dg_drop {ps:List Int}(h:dgOk ps):dgOk ps.dropLast:=fun d hd=>h d (List.dropLast_subset _ hd)
theorem dg_last {ps:List Int}(h:ps≠[])(hd:dgOk ps):0≤ps.getLast h∧ps.getLast h<1000003:=hd _ (List.getLast_mem h)
theorem seqI_nx {F G:Rho->Option Out}{ρ ρ':Rho}(h:F ρ=some (.nx ρ')):seqI F G ρ=G ρ':=by
 unfold seqI
 rw[h]
 rfl
theorem pick (xs:List Int){k:Int}(h0:0≤k)(h:k<(xs.length:Nat)):∃ m∈xs,ixD (.list (xs.map .int)) (.int k)=some (.int m):=by
 obtain⟨j,rfl⟩:=Int.eq_ofNat_of_zero_le h0
 have hj:j<xs.length:=Int.ofNat_lt.mp h
 exact⟨xs[j],List.getElem_mem hj,atI_nat (by rw[List.getElem?_map,List.getElem?_eq_getElem hj];rfl)⟩
theorem drop_ne {ps:List Int}{k:Nat}(h:ps.length=k+1):ps≠[]∧ps.dropLast.length=k:=⟨List.ne_nil_of_length_pos (by omega),by rw[List.length_dropLast,h];rfl⟩
theorem pop_mod {i:Nat}{ps:List Int}(h:ps≠[]){m:Int}(hm:0<m){g:Rho->Option PyData}{ρ:Rho}(hρ:(ρ[i]?).join=some (.list (ps.map .int)))(hg:g (ρ.set i (some (.list (ps.dropLast.map .int))))=some (.int m)) :
  opL modD (popD i) g ρ=some (.int (ps.getLast h % m),ρ.set i (some (.list (ps.dropLast.map .int)))):=by
 unfold opL
 rw[pop_i h hρ,Option.bind_some]
 show (g (ρ.set i (some (.list (ps.dropLast.map .int))))).bind _=_
 rw[hg,Option.bind_some,modD_ok hm]
 rfl
theorem compD_filter {α:Type}{S:PyData->Rho->Option Rho}{ft:Rho->Option Bool}{fe:Rho->Option PyData}(ea:α->PyData)(p:α->Bool)(R:Rho->Prop)(ok:α->Prop)
  (hS:∀ x ρ,ok x->R ρ->∃ ρ1,S (ea x) ρ=some ρ1∧R ρ1∧ft ρ1=some (p x)∧fe ρ1=some (ea x)):∀ (xs:List α) (ρ:Rho),R ρ->(∀ x∈xs,ok x)->compD S ft fe (xs.map ea) ρ=some ((xs.filter p).map ea)
 | [],ρ,_,_=>rfl
 | x::r,ρ,h,ho=>by
  obtain⟨ρ1,h1,h2,h3,h4⟩:=hS x ρ (ho x List.mem_cons_self) h
  have ih:=compD_filter ea p R ok hS r ρ1 h2 fun y hy=>ho y (List.mem_cons_of_mem _ hy)
  rw[List.map_cons,compD,h1]
  simp only[Option.bind_some,h3,h4,ih]
  by_cases hp:p x=true
  ·rw[if_pos hp,List.filter_cons_of_pos hp]
   rfl
  ·rw[if_neg hp,List.filter_cons_of_neg hp]
def aI (i:Int):Int:=if i<0 then -i else i
def sd (p q:Int×Int):Int:=if aI (p.2 - q.2)>aI (p.1 - q.1) then aI (p.2 - q.2) else aI (p.1 - q.1)
abbrev wN:List Str:=["many","places","chosen","last_mark","last_bar"]
def encN (e:List Nat):PyData:=.list (e.map fun x=>.int (x:Nat))
def encB (b:Option (List Nat)):PyData:=match b with
 | none=>.none
 | some c=>encN c
def wD (m:Int)(P:List (Int×Int))(c:List Nat)(k:Int)(b:Option (List Nat)):PyData:=objD "Watch" wN [.int m,encL P,encN c,.int k,encB b]
section
variable {m k:Int}{P:List (Int×Int)}{c:List Nat}{b:Option (List Nat)}
theorem f_many:fldD "Watch" "many" (wD m P c k b)=some (.int m):=by kernel_rfl
theorem f_places:fldD "Watch" "places" (wD m P c k b)=some (encL P):=by kernel_rfl
theorem f_chosen:fldD "Watch" "chosen" (wD m P c k b)=some (encN c):=by kernel_rfl
theorem f_mark:fldD "Watch" "last_mark" (wD m P c k b)=some (.int k):=by kernel_rfl
theorem f_bar:fldD "Watch" "last_bar" (wD m P c k b)=some (encB b):=by kernel_rfl
theorem fds_w:fdsD (wD m P c k b)=some [.int m,encL P,encN c,.int k,encB b]:=rfl
end
def wy (P:List (Int×Int))(i j:Nat):Int:=sd (P.getD i (0,0)) (P.getD j (0,0))
theorem ix_pl {P:List (Int×Int)}{i:Nat}(h:i<P.length):ixD (encL P) (.int (i:Nat))=some (encP (P.getD i (0,0))):=by
 unfold encL
 exact atI_nat (by rw[List.getElem?_map,List.getElem?_eq_getElem h,List.getD_eq_getElem?_getD,List.getElem?_eq_getElem h];rfl)
theorem side_eq (p q:Int×Int):F_p_side_between [encP p,encP q]=some (.int (sd p q)):=rfl
theorem bools_map:∀ bs:List Bool,boolsO (bs.map .bool)=some bs
 | []=>rfl
 | b::r=>by
  rw[List.map_cons,boolsO,bools_map r]
  rfl
theorem all_map (bs:List Bool):allD (.list (bs.map .bool))=some (.bool (bs.all id)):=by
 show ((boolsO (bs.map .bool)).map _)=_
 rw[bools_map]
 rfl
theorem obj_is (m:Int)(P:List (Int×Int))(c:List Nat)(k:Int)(b:Option (List Nat)){x:Str}(h:wN.all (fun n=>decide (n≠x))=true):isObD "Watch" x (wD m P c k b)=true:=by
 show (decide (("Watch":Str)="Watch")&&(wN.map PyData.str).all fun n=>match n with | .str g=>decide (g≠x) | _=>false)=true
 rw[decide_eq_true rfl,Bool.true_and,List.all_map]
 exact h
section
variable {m k:Int}{P:List (Int×Int)}{c:List Nat}{b:Option (List Nat)}
theorem way_eq {i j:Nat}(hi:i<P.length)(hj:j<P.length):F_w_way_between [wD m P c k b,.int (i:Nat),.int (j:Nat)]=some (.int (wy P i j)):=by
 show outD (((consD (bind2 (fldD "Watch" "places" (wD m P c k b)) (some (.int (i:Nat))) ixD) (consD (bind2 (fldD "Watch" "places" (wD m P c k b)) (some (.int (j:Nat))) ixD) (some []))).bind F_p_side_between).map Out.rt)=_
 rw[f_places,bind2_ss,bind2_ss,ix_pl hi,ix_pl hj]
 show outD ((F_p_side_between [encP (P.getD i (0,0)),encP (P.getD j (0,0))]).map Out.rt)=_
 rw[side_eq]
 rfl
theorem callM_is {x:Str}{F:List PyData->Option PyData}{fo:Rho->Option PyData}{fs:Rho->Option (List PyData)}{ρ:Rho}{ds:List PyData}(h1:fo ρ=some (wD m P c k b))(h2:fs ρ=some ds)(h:wN.all (fun n=>decide (n≠x))=true):callM "Watch" x F fo fs ρ=F (wD m P c k b::ds):=by
 unfold callM
 rw[h1,Option.bind_some,if_pos (obj_is m P c k b h),h2]
 rfl
def isFar (P:List (Int×Int))(k:Int)(n:Nat)(os:List Nat):Bool:=os.all fun o=>decide (2*k<wy P n o)
theorem far_eq {n:Nat}(hn:n<P.length){os:List Nat}(ho:∀ o∈os,o<P.length)(hl:os.length≤900):F_w_is_far [wD m P c k b,.int (n:Nat),encN os]=some (.bool (isFar P k n os)):=by
 show outD ((((compO (setS 0) (fun _=>some true) E_w_is_far_0 (some (os.map fun x=>.int (x:Nat))) [none,some (wD m P c k b),some (.int (n:Nat))]).map PyData.list).bind allD).map Out.rt)=_
 rw[compO_s (by rw[List.length_map];omega),compD_map (S:=setS 0) (fe:=E_w_is_far_0) (fun o:Nat=>PyData.int (o:Nat)) PyData.bool (fun o=>decide (2*k<wy P n o)) (fun ρ=>∃ a,ρ=[a,some (wD m P c k b),some (.int (n:Nat))]) (fun o=>o<P.length) (fun o ρ hol ⟨a,e⟩=>⟨[some (.int (o:Nat)),some (wD m P c k b),some (.int (n:Nat))],by rw[e];rfl,⟨_,rfl⟩,?_⟩) os [none,some (wD m P c k b),some (.int (n:Nat))] ⟨_,rfl⟩ ho]
 ·show outD ((allD (.list ((os.map fun o=>decide (2*k<wy P n o)).map .bool))).map Out.rt)=_
  rw[all_map,List.all_map]
  rfl
 ·unfold E_w_is_far_0
  rw[callM_is (m:=m) (k:=k) (P:=P) (c:=c) (b:=b) (ds:=[.int (n:Nat),.int (o:Nat)]) rfl rfl (by decide +kernel),way_eq hn hol]
  show bind2 (some (.int (wy P n o))) (bind2 (some (.int 2)) (fldD "Watch" "last_mark" (wD m P c k b)) mulD) gtD=_
  rw[f_mark,bind2_ss,mulD_s1 (by decide),bind2_ss,gtD_ok]
end
theorem cut_take {α:Type}(e:α->PyData)(xs:List α){p:Nat}(hp:p≤xs.length):cutD (some (.list (xs.map e))) (some none) (some (some ((p:Nat):Int)))=some ((xs.take p).map e):=by
 show some (cutL (xs.map e) none (some ((p:Nat):Int)))=_
 unfold cutL
 rw[show HT.sIx (xs.map e).length 0 none=0 from rfl,List.drop_zero,Nat.sub_zero,HT.sIx_nat,List.length_map,Nat.min_eq_left hp,List.map_take]
def wsP (P:List (Int×Int))(c:List Nat)(p:Nat):List Int:=(c.take p).map fun o=>wy P (c.getD p 0) o
def wsU (P:List (Int×Int))(c:List Nat):Nat->List Int
 | 0=>[]
 | p+1=>wsU P c p++wsP P c p
theorem wsU_len (P:List (Int×Int))(c:List Nat):∀ p,p≤c.length->(wsU P c p).length≤p*c.length
 | 0,_=>Nat.zero_le _
 | p+1,h=>by
  have ih:=wsU_len P c p (by omega)
  rw[wsU,List.length_append,wsP,List.length_map,List.length_take,Nat.add_mul,Nat.one_mul]
  omega
theorem wsU_mem {P:List (Int×Int)}{c:List Nat}{w:Int}:∀ {p},w∈wsU P c p↔∃ i j,i<j∧j<p∧i<c.length∧wy P (c.getD j 0) (c.getD i 0)=w
 | 0=>⟨fun h=>(nomatch h),fun ⟨i,j,_,h,_⟩=>by omega⟩
 | p+1=>by
  rw[wsU,List.mem_append,wsU_mem,wsP,List.mem_map]
  constructor
  ·rintro (⟨i,j,h1,h2,h3,h4⟩ | ⟨o,h1,h2⟩)
   ·exact⟨i,j,h1,by omega,h3,h4⟩
   ·obtain⟨i,h3,h4⟩:=List.getElem_of_mem h1
    rw[List.length_take] at h3
    refine⟨i,p,by omega,by omega,by omega,?_⟩
    rw[List.getElem_take] at h4
    rw[List.getD_eq_getElem?_getD (i:=i),List.getElem?_eq_getElem (by omega)]
    show wy P (c.getD p 0) c[i]=w
    rw[h4]
    exact h2
  ·rintro⟨i,j,h1,h2,h3,h4⟩
   by_cases hj:j<p
   ·exact .inl ⟨i,j,h1,hj,h3,h4⟩
   ·have:j=p:=by omega
    subst this
    refine .inr ⟨c.getD i 0,?_,h4⟩
    rw[List.getD_eq_getElem?_getD,List.getElem?_eq_getElem h3]
    show c[i]∈c.take j
    exact List.mem_take_iff_getElem.mpr ⟨i,by omega,rfl⟩
section
variable {m k:Int}{P:List (Int×Int)}{c:List Nat}{b:Option (List Nat)}
theorem lw_body {p:Nat}(hp:p<c.length)(hc:∀ o∈c,o<P.length)(hl:c.length≤20)(x2 x3:Option PyData) :
  L_w_least_way_1 [some (wD m P c k b),some (.list ((wsU P c p).map .int)),some (.int (p:Nat)),some (.int (c.getD p 0:Nat))]=some (.nx [some (wD m P c k b),some (.list ((wsU P c (p+1)).map .int)),some (.int (p:Nat)),some (.int (c.getD p 0:Nat))]):=by
 have hcp:c.getD p 0<P.length:=hc _ (by rw[List.getD_eq_getElem?_getD,List.getElem?_eq_getElem hp];exact List.getElem_mem hp)
 show (Option.filter lf.go (compO (setS 0) (fun _=>some true) E_w_least_way_0 (((cutD (fldD "Watch" "chosen" (wD m P c k b)) (some none) (some (some ((p:Nat):Int)))).map .list).bind listD) [none,some (wD m P c k b),some (.int (c.getD p 0:Nat))])).bind _=_
 rw[f_chosen,show encN c=.list (c.map fun x=>.int (x:Nat)) from rfl,cut_take (fun x:Nat=>PyData.int (x:Nat)) c (by omega)]
 show (Option.filter lf.go (compO (setS 0) (fun _=>some true) E_w_least_way_0 (some ((c.take p).map fun x:Nat=>PyData.int (x:Nat))) [none,some (wD m P c k b),some (.int (c.getD p 0:Nat))])).bind _=_
 rw[compO_s (by rw[List.length_map,List.length_take];omega),compD_map (S:=setS 0) (fe:=E_w_least_way_0) (fun o:Nat=>PyData.int (o:Nat)) PyData.int (fun o=>wy P (c.getD p 0) o) (fun ρ=>∃ a,ρ=[a,some (wD m P c k b),some (.int (c.getD p 0:Nat))]) (fun o=>o<P.length) (fun o ρ hol ⟨a,e⟩=>⟨[some (.int (o:Nat)),some (wD m P c k b),some (.int (c.getD p 0:Nat))],by rw[e];rfl,⟨_,rfl⟩,?_⟩) (c.take p) [none,some (wD m P c k b),some (.int (c.getD p 0:Nat))] ⟨_,rfl⟩ fun o ho=>hc o (List.mem_of_mem_take ho)]
 ·have hlen:=wsU_len P c p (by omega)
  have h20:p*c.length≤20*20:=Nat.mul_le_mul (by omega) hl
  rw[filt (lf_zs _)]
  show (if decide (((wsU P c p).map PyData.int).length+((wsP P c p).map PyData.int).length<1000)=true then some (Out.nx [some (wD m P c k b),some (.list ((wsU P c p).map .int++(wsP P c p).map .int)),some (.int (p:Nat)),some (.int (c.getD p 0:Nat))]) else none)=_
  rw[if_pos (decide_eq_true (by rw[List.length_map,List.length_map,wsP,List.length_map,List.length_take];omega)),← List.map_append]
  rfl
 ·unfold E_w_least_way_0
  rw[callM_is (m:=m) (k:=k) (P:=P) (c:=c) (b:=b) (ds:=[.int (c.getD p 0:Nat),.int (o:Nat)]) rfl rfl (by decide +kernel)]
  exact way_eq hcp hol
theorem least_eq (hc:∀ o∈c,o<P.length)(hl:c.length≤20):F_w_least_way [wD m P c k b]=minLD (.list ((wsU P c c.length).map .int)):=by
 have e:enumL (c.map fun x:Nat=>PyData.int (x:Nat))=(List.range c.length).map fun i=>PyData.tuple [.int (i:Nat),.int (c.getD i 0:Nat)]:=by
  unfold enumL
  apply List.ext_getElem?
  intro i
  rw[List.getElem?_zipWith,List.getElem?_map,List.getElem?_map,List.length_map]
  by_cases h:i<c.length
  ·rw[List.getElem?_range h,List.getElem?_eq_getElem h]
   show some (PyData.tuple [.int ((i:Nat):Int),.int (c[i]:Nat)])=some (.tuple [.int ((i:Nat):Int),.int (c.getD i 0:Nat)])
   rw[List.getD_eq_getElem?_getD,List.getElem?_eq_getElem h]
   rfl
  ·rw[List.getElem?_eq_none (by rw[List.length_range];omega)]
   rfl
 have loop:∀ (n p:Nat),p+n=c.length->∀ x2 x3:Option PyData,∃ y2 y3,forD (tupS 2 (consS (setS 2) (consS (setS 3) (nilS)))) L_w_least_way_1 (((List.range c.length).drop p).map fun i=>PyData.tuple [.int (i:Nat),.int (c.getD i 0:Nat)]) [some (wD m P c k b),some (.list ((wsU P c p).map .int)),x2,x3]=some (.nx [some (wD m P c k b),some (.list ((wsU P c c.length).map .int)),y2,y3]):=by
  intro n
  induction n with
  | zero=>
   intro p hp x2 x3
   have:p=c.length:=by omega
   subst this
   rw[List.drop_eq_nil_of_le (by rw[List.length_range];exact Nat.le_refl _)]
   exact⟨x2,x3,rfl⟩
  | succ n ih=>
   intro p hp x2 x3
   have hpl:p<c.length:=by omega
   have hd:(List.range c.length).drop p=p::(List.range c.length).drop (p+1):=by
    rw[List.drop_eq_getElem_cons (by rw[List.length_range];exact hpl),List.getElem_range]
   obtain⟨y2,y3,h⟩:=ih (p+1) (by omega) (some (.int (p:Nat))) (some (.int (c.getD p 0:Nat)))
   refine⟨y2,y3,?_⟩
   rw[hd,List.map_cons]
   show (L_w_least_way_1 [some (wD m P c k b),some (.list ((wsU P c p).map .int)),some (.int (p:Nat)),some (.int (c.getD p 0:Nat))]).bind _=_
   rw[lw_body hpl hc hl x2 x3]
   exact h
 obtain⟨y2,y3,h⟩:=loop c.length 0 (by omega) none none
 have q:B_w_least_way [some (wD m P c k b),none,none,none]=(minLD (.list ((wsU P c c.length).map .int))).map Out.rt:=by
  unfold B_w_least_way
  rw[seqF_nx (ρ':=[some (wD m P c k b),some (.list []),none,none]) rfl]
  rw[seqF_nx (ρ':=[some (wD m P c k b),some (.list ((wsU P c c.length).map .int)),y2,y3]) ?s1]
  case s1=>
   show forO _ L_w_least_way_1 (((fldD "Watch" "chosen" (wD m P c k b)).bind listD).map enumL) _=_
   rw[f_chosen]
   show forD _ L_w_least_way_1 (enumL (c.map fun x:Nat=>PyData.int (x:Nat))) _=_
   rw[e]
   exact h
  rfl
 show outD (B_w_least_way [some (wD m P c k b),none,none,none])=_
 rw[q]
 cases minLD (.list ((wsU P c c.length).map .int)) <;> rfl
end
def kp (P:List (Int×Int))(w:Int):List Nat->List Nat->List Nat
 | acc,[]=>acc
 | acc,n::r=>kp P w (if isFar P w n acc=true then acc++[n] else acc) r
section
variable {m k:Int}{P:List (Int×Int)}{c:List Nat}{b:Option (List Nat)}
theorem rm_body {n:Nat}{acc:List Nat}(hn:n<P.length)(ho:∀ o∈acc,o<P.length)(hl:acc.length≤900) :
  L_w_raise_mark_0 [some (wD m P c k b),some (encN acc),some (.int (n:Nat))]=some (.nx [some (wD m P c k b),some (encN (if isFar P k n acc=true then acc++[n] else acc)),some (.int (n:Nat))]):=by
 unfold L_w_raise_mark_0
 rw[callM_is (m:=m) (k:=k) (P:=P) (c:=c) (b:=b) (ds:=[.int (n:Nat),encN acc]) rfl rfl (by decide +kernel),far_eq hn ho hl]
 by_cases h:isFar P k n acc=true
 ·rw[h,if_pos rfl]
  show (if decide ((acc.map fun x:Nat=>PyData.int (x:Nat)).length<1000)=true then some (Out.nx [some (wD m P c k b),some (.list ((acc.map fun x:Nat=>PyData.int (x:Nat))++[.int (n:Nat)])),some (.int (n:Nat))]) else none)=_
  rw[if_pos (decide_eq_true (by rw[List.length_map];omega))]
  unfold encN
  rw[List.map_append]
  rfl
 ·rw[Bool.eq_false_iff.mpr h,if_neg (by decide)]
  rfl
theorem rm_loop:∀ (t acc:List Nat),(∀ o∈t,o<P.length)->(∀ o∈acc,o<P.length)->acc.length+t.length≤900->∀ x2,∃ y2,forD (setS 2) L_w_raise_mark_0 (t.map fun x:Nat=>PyData.int (x:Nat)) [some (wD m P c k b),some (encN acc),x2]=some (.nx [some (wD m P c k b),some (encN (kp P k acc t)),y2])
 | [],acc,_,_,_,x2=>⟨x2,rfl⟩
 | n::r,acc,ht,ho,hl,x2=>by
  rw[List.length_cons] at hl
  have hn:=ht n List.mem_cons_self
  obtain⟨y2,h⟩:=rm_loop r (if isFar P k n acc=true then acc++[n] else acc) (fun o z=>ht o (List.mem_cons_of_mem _ z)) (fun o z=>by
   split at z
   ·rcases List.mem_append.mp z with z | z
    ·exact ho o z
    ·rw[List.mem_singleton.mp z];exact hn
   ·exact ho o z) (by split <;> (try rw[List.length_append,List.length_singleton]) <;> omega) (some (.int (n:Nat)))
  refine⟨y2,?_⟩
  rw[List.map_cons]
  show (L_w_raise_mark_0 [some (wD m P c k b),some (encN acc),some (.int (n:Nat))]).bind _=_
  rw[rm_body hn ho (by omega)]
  exact h
theorem loose_w {F:Rho->Option Out}{x y:Option PyData}:looseF 2 F [some (wD m P c k b),x,y]=F [some (wD m P c k b),x,y]:=rfl
theorem raise_eq (hc:∀ o∈c,o<P.length)(hl:c.length≤20){w:Int}(hw:minLD (.list ((wsU P c c.length).map .int))=some (.int w)):FR_w_raise_mark [wD m P c k b]=some (.none,wD m P (kp P w [] c) w (some c)):=by
 obtain⟨y2,h⟩:=rm_loop (m:=m) (c:=c) (b:=some c) (k:=w) c [] hc (fun _ z=>nomatch z) (by rw[List.length_nil];omega) none
 have q:B_w_raise_mark [some (wD m P c k b),none,none]=some (.rt (.tuple [.none,wD m P (kp P w [] c) w (some c)])):=by
  unfold B_w_raise_mark
  rw[loose_w]
  rw[seqI_nx (ρ':=[some (wD m P c k (some c)),none,none]) rfl]
  rw[seqI_nx (ρ':=[some (wD m P c w (some c)),none,none]) ?s1]
  case s1=>
   unfold setFd
   dsimp only
   rw[callM_is (m:=m) (k:=k) (P:=P) (c:=c) (b:=some c) (ds:=[]) rfl rfl (by decide +kernel),least_eq hc hl,hw]
   rfl
  rw[seqI_nx (ρ':=[some (wD m P c w (some c)),some (encN []),none]) rfl]
  rw[seqI_nx (ρ':=[some (wD m P c w (some c)),some (encN (kp P w [] c)),y2]) ?s2]
  case s2=>exact h
  rfl
 show outRc (B_w_raise_mark [some (wD m P c k b),none,none])=_
 rw[q]
 rfl
theorem come_if (q:Int×Int)(hP:P.length<900)(hc:∀ o∈c,o<P.length)(hl:c.length≤900) :
  ∃ G:Rho->Option Out,(∀ ρ,G ρ=seqI (fun ρ=>whileD W_w_come_0 L_w_come_1 ((fun ρ=>64) ρ) ρ) (retR (fun ρ=>(ρ[3]?).join)) ρ)∧B_w_come [some (wD m P c k b),some (.int q.1),some (.int q.2),none]=G [some (wD m (P++[q]) (if isFar (P++[q]) k P.length c=true then c++[P.length] else c) k b),some (.int q.1),some (.int q.2),some (.int (P.length:Nat))]:=by
 refine⟨_,fun _=>rfl,?_⟩
 unfold B_w_come
 rw[seqI_nx (ρ':=[some (wD m P c k b),some (.int q.1),some (.int q.2),some (.int (P.length:Nat))]) ?s1]
 case s1=>
  show setO 3 _ ((consD (fldD "Watch" "places" (wD m P c k b)) (some [])).bind lenD)=_
  rw[f_places]
  show setO 3 _ (some (.int ((P.map encP).length:Nat)))=_
  rw[List.length_map]
  rfl
 rw[seqI_nx (ρ':=[some (wD m (P++[q]) c k b),some (.int q.1),some (.int q.2),some (.int (P.length:Nat))]) ?s2]
 case s2=>
  show (if decide ((P.map encP).length<1000)=true then some (Out.nx [some (objD "Watch" wN [.int m,.list (P.map encP++[encP q]),encN c,.int k,encB b]),some (.int q.1),some (.int q.2),some (.int (P.length:Nat))]) else none)=_
  rw[if_pos (decide_eq_true (by rw[List.length_map];omega))]
  unfold wD encL
  rw[List.map_append]
  rfl
 rw[seqI_nx (ρ':=[some (wD m (P++[q]) (if isFar (P++[q]) k P.length c=true then c++[P.length] else c) k b),some (.int q.1),some (.int q.2),some (.int (P.length:Nat))]) ?s3]
 case s3=>
  rw[callM_is (m:=m) (k:=k) (P:=P++[q]) (c:=c) (b:=b) (ds:=[.int (P.length:Nat),encN c]) rfl (by show consD _ (consD (fldD "Watch" "chosen" (wD m (P++[q]) c k b)) _)=_;rw[f_chosen];rfl) (by decide +kernel),far_eq (by rw[List.length_append,List.length_singleton];omega) (fun o z=>by have:=hc o z;rw[List.length_append];omega) (by omega)]
  by_cases h:isFar (P++[q]) k P.length c=true
  ·rw[h,if_pos rfl]
   show (if decide ((c.map fun x:Nat=>PyData.int (x:Nat)).length<1000)=true then some (Out.nx [some (objD "Watch" wN [.int m,encL (P++[q]),.list ((c.map fun x:Nat=>PyData.int (x:Nat))++[.int (P.length:Nat)]),.int k,encB b]),some (.int q.1),some (.int q.2),some (.int (P.length:Nat))]) else none)=_
   rw[if_pos (decide_eq_true (by rw[List.length_map];omega))]
   unfold wD encN
   rw[List.map_append]
   rfl
  ·rw[Bool.eq_false_iff.mpr h,if_neg (by decide)]
   rfl
theorem wh_end {t:Rho->Option Bool}{F:Rho->Option Out}{n:Nat}{ρ:Rho}(h:t ρ=some false):whileD t F (n+1) ρ=some (.nx ρ):=by
 unfold whileD
 rw[h]
 rfl
theorem wh_step {t:Rho->Option Bool}{F:Rho->Option Out}{n:Nat}{ρ ρ':Rho}(h:t ρ=some true)(h2:F ρ=some (.nx ρ')):whileD t F (n+1) ρ=whileD t F n ρ':=by
 show (t ρ).bind _=_
 rw[h]
 show (F ρ).bind _=_
 rw[h2]
 rfl
theorem wh_test (x y z:Option PyData):W_w_come_0 [some (wD m P c k b),x,y,z]=some (decide (m<(c.length:Nat))):=by
 show testD (bind2 ((consD (fldD "Watch" "chosen" (wD m P c k b)) (some [])).bind lenD) (fldD "Watch" "many" (wD m P c k b)) gtD)=_
 rw[f_chosen,f_many]
 show testD (bind2 (some (.int ((c.map fun x:Nat=>PyData.int (x:Nat)).length:Nat))) (some (.int m)) gtD)=_
 rw[List.length_map,bind2_ss,gtD_ok]
 rfl
theorem come_0 (q:Int×Int)(hP:P.length<900)(hc:∀ o∈c,o<P.length)(hl:c.length≤900){c1:List Nat}(e1:(if isFar (P++[q]) k P.length c=true then c++[P.length] else c)=c1)(h1:(c1.length:Int)≤m) :
  FR_w_come [wD m P c k b,.int q.1,.int q.2]=some (.int (P.length:Nat),wD m (P++[q]) c1 k b):=by
 obtain⟨G,hG,e⟩:=come_if (m:=m) (k:=k) (b:=b) q hP hc hl
 rw[hG,e1] at e
 show outRc (B_w_come [some (wD m P c k b),some (.int q.1),some (.int q.2),none])=_
 rw[e,seqI_nx (ρ':=[some (wD m (P++[q]) c1 k b),some (.int q.1),some (.int q.2),some (.int (P.length:Nat))]) ?s1]
 case s1=>
  exact wh_end (n:=63) (by rw[wh_test,decide_eq_false (by omega)])
 rfl
theorem come_1 (q:Int×Int)(hP:P.length<900)(hc:∀ o∈c,o<P.length)(hl:c.length<20){c1:List Nat}(e1:(if isFar (P++[q]) k P.length c=true then c++[P.length] else c)=c1)(h1:¬ (c1.length:Int)≤m){w:Int}(hw:minLD (.list ((wsU (P++[q]) c1 c1.length).map .int))=some (.int w))(h2:((kp (P++[q]) w [] c1).length:Int)≤m) :
  FR_w_come [wD m P c k b,.int q.1,.int q.2]=some (.int (P.length:Nat),wD m (P++[q]) (kp (P++[q]) w [] c1) w (some c1)):=by
 obtain⟨G,hG,e⟩:=come_if (m:=m) (k:=k) (b:=b) q hP hc (by omega)
 rw[hG,e1] at e
 have hc1:∀ o∈c1,o<(P++[q]).length:=fun o z=>by
  rw[List.length_append,List.length_singleton]
  rw[← e1] at z
  split at z
  ·rcases List.mem_append.mp z with z | z
   ·have:=hc o z;omega
   ·rw[List.mem_singleton.mp z];omega
  ·have:=hc o z;omega
 have hl1:c1.length≤20:=by rw[← e1];split <;> (try rw[List.length_append,List.length_singleton]) <;> omega
 show outRc (B_w_come [some (wD m P c k b),some (.int q.1),some (.int q.2),none])=_
 rw[e,seqI_nx (ρ':=[some (wD m (P++[q]) (kp (P++[q]) w [] c1) w (some c1)),some (.int q.1),some (.int q.2),some (.int (P.length:Nat))]) ?s1]
 case s1=>
  refine (wh_step (n:=63) (ρ':=[some (wD m (P++[q]) (kp (P++[q]) w [] c1) w (some c1)),some (.int q.1),some (.int q.2),some (.int (P.length:Nat))]) (by rw[wh_test,decide_eq_true (by omega)]) ?_).trans (wh_end (n:=62) (by rw[wh_test,decide_eq_false (by omega)]))
  show ((FR_w_raise_mark [wD m (P++[q]) c1 k b]).map fun r=>Out.nx [some r.2,some (.int q.1),some (.int q.2),some (.int (P.length:Nat))])=_
  rw[raise_eq hc1 hl1 hw]
  rfl
 rfl
end
theorem aI_is (i:Int):aI i=(i.natAbs:Int):=by unfold aI;split <;> omega
theorem sd_is (p q:Int×Int):sd p q=((max (p.1 - q.1).natAbs (p.2 - q.2).natAbs:Nat):Int):=by
 unfold sd
 rw[aI_is,aI_is]
 split <;> omega
theorem sd_nn (p q:Int×Int):0≤sd p q:=by rw[sd_is];omega
theorem sd_self (p:Int×Int):sd p p=0:=by rw[sd_is];omega
theorem sd_tri (p q r:Int×Int):sd p r≤sd p q+sd q r:=by rw[sd_is,sd_is,sd_is];omega
theorem wy_app (P:List (Int×Int))(q:Int×Int){i j:Nat}(hi:i<P.length)(hj:j<P.length):wy (P++[q]) i j=wy P i j:=by
 unfold wy
 rw[List.getD_eq_getElem?_getD,List.getD_eq_getElem?_getD,List.getElem?_append_left hi,List.getElem?_append_left hj,← List.getD_eq_getElem?_getD,← List.getD_eq_getElem?_getD]
theorem getD_mem {c:List Nat}{i:Nat}(h:i<c.length):c.getD i 0∈c:=by
 rw[List.getD_eq_getElem?_getD,List.getElem?_eq_getElem h]
 exact List.getElem_mem h
def Apt (P:List (Int×Int))(d:Int)(e:List Nat):Prop:=∀ i j,i<j->j<e.length->d≤wy P (e.getD j 0) (e.getD i 0)
theorem Apt.app {P:List (Int×Int)}{d:Int}{e:List Nat}(q:Int×Int)(h:Apt P d e)(he:∀ o∈e,o<P.length):Apt (P++[q]) d e:=fun i j h1 h2=>by
 rw[wy_app P q (he _ (getD_mem h2)) (he _ (getD_mem (Nat.lt_trans h1 h2)))]
 exact h i j h1 h2
theorem Apt.snoc {P:List (Int×Int)}{d:Int}{e:List Nat}{n:Nat}(h:Apt P d e)(hn:∀ o∈e,d≤wy P n o):Apt P d (e++[n]):=fun i j h1 h2=>by
 rw[List.length_append,List.length_singleton] at h2
 have ei:(e++[n]).getD i 0=e.getD i 0:=by
  rw[List.getD_eq_getElem?_getD,List.getD_eq_getElem?_getD,List.getElem?_append_left (by omega)]
 by_cases hj:j<e.length
 ·rw[ei,show (e++[n]).getD j 0=e.getD j 0 by rw[List.getD_eq_getElem?_getD,List.getD_eq_getElem?_getD,List.getElem?_append_left hj]]
  exact h i j h1 hj
 ·obtain rfl:j=e.length:=by omega
  rw[ei,show (e++[n]).getD e.length 0=n by rw[List.getD_eq_getElem?_getD,List.getElem?_append_right (Nat.le_refl _),Nat.sub_self];rfl]
  exact hn _ (getD_mem (by omega))
theorem far_iff {P:List (Int×Int)}{k:Int}{n:Nat}{os:List Nat}:isFar P k n os=true↔∀ o∈os,2*k+1≤wy P n o:=by
 unfold isFar
 rw[List.all_eq_true]
 exact⟨fun h o z=>by have:=of_decide_eq_true (h o z);omega,fun h o z=>decide_eq_true (by have:=h o z;omega)⟩
theorem far_not {P:List (Int×Int)}{k:Int}{n:Nat}{os:List Nat}(h:¬ isFar P k n os=true):∃ o∈os,wy P n o≤2*k:=by
 apply Classical.byContradiction
 intro z
 exact h (far_iff.mpr fun o ho=>Classical.byContradiction fun y=>z ⟨o,ho,by omega⟩)
section
variable {P:List (Int×Int)}{w:Int}
theorem kp_sub:∀ (t acc:List Nat) (o:Nat),o∈kp P w acc t->o∈acc∨o∈t
 | [],_,_,h=>.inl h
 | n::r,acc,o,h=>by
  rcases kp_sub r _ o h with h | h
  ·split at h
   ·rcases List.mem_append.mp h with h | h
    ·exact .inl h
    ·exact .inr (List.mem_singleton.mp h▸List.mem_cons_self)
   ·exact .inl h
  ·exact .inr (List.mem_cons_of_mem _ h)
theorem kp_keep:∀ (t acc:List Nat) (o:Nat),o∈acc->o∈kp P w acc t
 | [],_,_,h=>h
 | n::r,acc,o,h=>kp_keep r _ o (by split;exact List.mem_append_left _ h;exact h)
theorem kp_ap:∀ (t acc:List Nat),Apt P (2*w+1) acc->Apt P (2*w+1) (kp P w acc t)
 | [],_,h=>h
 | n::r,acc,h=>kp_ap r _ (by
  split
  ·next q=>exact h.snoc (far_iff.mp q)
  ·exact h)
theorem kp_cov (hw:0≤w):∀ (t acc:List Nat) (o:Nat),o∈t->∃ o'∈kp P w acc t,wy P o o'≤2*w
 | n::r,acc,o,h=>by
  rcases List.mem_cons.mp h with rfl | h
  ·by_cases q:isFar P w o acc=true
   ·refine⟨o,?_,by rw[wy,sd_self];omega⟩
    show o∈kp P w (if isFar P w o acc=true then acc++[o] else acc) r
    rw[if_pos q]
    exact kp_keep r _ o (List.mem_append_right _ (List.mem_singleton.mpr rfl))
   ·obtain⟨o',h1,h2⟩:=far_not q
    refine⟨o',?_,h2⟩
    show o'∈kp P w (if isFar P w o acc=true then acc++[o] else acc) r
    rw[if_neg q]
    exact kp_keep r _ o' h1
  ·exact kp_cov hw r _ o h
theorem kp_len:∀ (t acc:List Nat),kp P w acc t=acc++t∨(kp P w acc t).length<acc.length+t.length
 | [],acc=>.inl (List.append_nil _).symm
 | n::r,acc=>by
  show kp P w (if isFar P w n acc=true then acc++[n] else acc) r=acc++n::r∨(kp P w (if isFar P w n acc=true then acc++[n] else acc) r).length<acc.length+(n::r).length
  by_cases q:isFar P w n acc=true
  ·rw[if_pos q]
   rcases kp_len r (acc++[n]) with h | h
   ·exact .inl (by rw[h,List.append_assoc];rfl)
   ·exact .inr (by rw[List.length_append,List.length_singleton] at h;rw[List.length_cons];omega)
  ·rw[if_neg q]
   rcases kp_len r acc with h | h
   ·exact .inr (by rw[h,List.length_append,List.length_cons];omega)
   ·exact .inr (by rw[List.length_cons];omega)
end
structure Wi (m:Int)(P:List (Int×Int))(c:List Nat)(k:Int)(b:Option (List Nat)):Prop where
 k0:0≤k
 lt:∀ o∈c,o<P.length
 le:(c.length:Int)≤m
 ap:Apt P (2*k+1) c
 cov:∀ n,n<P.length->∃ o∈c,wy P n o≤4*k
 bar:(k=0∧b=none)∨(0<k∧∃ e,b=some e∧(e.length:Int)=m+1∧(∀ o∈e,o<P.length)∧Apt P k e)
theorem Wi.nil {m:Int}(h:0≤m):Wi m [] [] 0 none:=⟨Int.le_refl _,fun _ z=>(nomatch z),h,fun _ _ _ z=>absurd z (Nat.not_lt_zero _),fun _ z=>absurd z (Nat.not_lt_zero _),.inl ⟨rfl,rfl⟩⟩
def mn (P:List (Int×Int))(c:List Nat)(n:Nat):Int:=match c.map (wy P n) with
 | []=>0
 | a::r=>minI a r
theorem mn_eq {P:List (Int×Int)}{c:List Nat}{n:Nat}(h:c≠[]):minLD (.list ((c.map fun o=>wy P n o).map .int))=some (.int (mn P c n)):=by
 cases c with
 | nil=>exact absurd rfl h
 | cons a r=>
  show (intsO ((wy P n a::r.map (wy P n)).map .int)).bind _=_
  rw[intsO_map]
  rfl
theorem mn_is {P:List (Int×Int)}{c:List Nat}{n:Nat}(h:c≠[]):(∃ o∈c,wy P n o=mn P c n)∧∀ o∈c,mn P c n≤wy P n o:=by
 cases c with
 | nil=>exact absurd rfl h
 | cons a r=>
  obtain⟨h1,h2⟩:=minI_is (r.map (wy P n)) (wy P n a)
  constructor
  ·obtain⟨o,h3,h4⟩:=List.mem_map.mp (show mn P (a::r) n∈(a::r).map (wy P n) from h1)
   exact⟨o,h3,h4⟩
  ·exact fun o ho=>h2 _ (show wy P n o∈(a::r).map (wy P n) from List.mem_map_of_mem ho)
theorem wy_nn (P:List (Int×Int))(i j:Nat):0≤wy P i j:=sd_nn _ _
structure Mx (l:List Int)(r:Int):Prop where
 nn:0≤r
 mem:r=0∨r∈l
 le:∀ x∈l,x≤r
theorem Mx.uniq {l:List Int}{r s:Int}(a:Mx l r)(b:Mx l s):r=s:=by
 have h1:=a.nn
 have h2:=b.nn
 rcases a.mem with h | h
 ·rcases b.mem with g | g
  ·omega
  ·have:=a.le _ g;omega
 ·have:=b.le _ h
  rcases b.mem with g | g
  ·omega
  ·have:=a.le _ g;omega
section
variable {m k:Int}{P:List (Int×Int)}{c:List Nat}{b:Option (List Nat)}
theorem folk_eq:F_w_folk [wD m P c k b]=some (encL P):=by
 show outD (((((fldD "Watch" "places" (wD m P c k b)).bind seqD).map .list)).map .rt)=_
 rw[f_places]
 rfl
theorem posts_eq:F_w_posts [wD m P c k b]=some (encN c):=by
 show outD ((((fldD "Watch" "chosen" (wD m P c k b)).bind seqD).map .list).map .rt)=_
 rw[f_chosen]
 rfl
theorem mark_eq:F_w_mark [wD m P c k b]=some (.int k):=by
 show outD ((fldD "Watch" "last_mark" (wD m P c k b)).map .rt)=_
 rw[f_mark]
 rfl
theorem bar_eq:F_w_bar [wD m P c k b]=some (encB b):=by
 show outD ((condO (testD (bind2 (fldD "Watch" "last_bar" (wD m P c k b)) (some .none) isNoneD)) (some .none) (((fldD "Watch" "last_bar" (wD m P c k b)).bind seqD).map .list)).map .rt)=_
 rw[f_bar]
 cases b with
 | none=>rfl
 | some e=>rfl
theorem wtp_eq {n:Nat}(hn:n<P.length)(hc:∀ o∈c,o<P.length)(hl:c.length≤900)(h0:c≠[]):F_w_way_to_post [wD m P c k b,.int (n:Nat)]=some (.int (mn P c n)):=by
 show outD ((((compO (setS 0) (fun _=>some true) E_w_way_to_post_0 ((fldD "Watch" "chosen" (wD m P c k b)).bind listD) [none,some (wD m P c k b),some (.int (n:Nat))]).map PyData.list).bind minLD).map Out.rt)=_
 rw[f_chosen]
 show outD ((((compO (setS 0) (fun _=>some true) E_w_way_to_post_0 (some (c.map fun x:Nat=>PyData.int (x:Nat))) [none,some (wD m P c k b),some (.int (n:Nat))]).map PyData.list).bind minLD).map Out.rt)=_
 rw[compO_s (by rw[List.length_map];omega),compD_map (S:=setS 0) (fe:=E_w_way_to_post_0) (fun o:Nat=>PyData.int (o:Nat)) PyData.int (fun o=>wy P n o) (fun ρ=>∃ a,ρ=[a,some (wD m P c k b),some (.int (n:Nat))]) (fun o=>o<P.length) (fun o ρ hol ⟨a,e⟩=>⟨[some (.int (o:Nat)),some (wD m P c k b),some (.int (n:Nat))],by rw[e];rfl,⟨_,rfl⟩,?_⟩) c [none,some (wD m P c k b),some (.int (n:Nat))] ⟨_,rfl⟩ hc]
 ·show outD ((minLD (.list ((c.map fun o=>wy P n o).map .int))).map Out.rt)=_
  rw[mn_eq h0]
  rfl
 ·unfold E_w_way_to_post_0
  rw[callM_is (m:=m) (k:=k) (P:=P) (c:=c) (b:=b) (ds:=[.int (n:Nat),.int (o:Nat)]) rfl rfl (by decide +kernel)]
  exact way_eq hn hol
theorem reach_eq (hP:P.length<900)(hc:∀ o∈c,o<P.length)(hl:c.length≤900)(h0:P≠[]->c≠[]):∃ R,F_w_reach [wD m P c k b]=some (.int R)∧Mx ((List.range P.length).map (mn P c)) R:=by
 have e:F_w_reach [wD m P c k b]=some (.int (maxOr 0 ((List.range P.length).map (mn P c)))):=by
  show outD ((((compO (setS 0) (fun _=>some true) E_w_reach_0 ((consD ((consD (fldD "Watch" "places" (wD m P c k b)) (some [])).bind lenD) (some [])).bind rng1D) [none,some (wD m P c k b)]).map PyData.list).bind (maxDf 0)).map Out.rt)=_
  rw[f_places]
  show outD ((((compO (setS 0) (fun _=>some true) E_w_reach_0 (rng1D [.int ((P.map encP).length:Nat)]) [none,some (wD m P c k b)]).map PyData.list).bind (maxDf 0)).map Out.rt)=_
  rw[List.length_map,rng1_ok (by omega) (by omega),Int.toNat_natCast,compO_s (by rw[rl_len];omega),show rngL 0 P.length=(List.range P.length).map (fun i:Nat=>PyData.int (i:Nat)) by unfold rngL;exact List.map_congr_left fun i _=>by rw[Int.zero_add],compD_map (S:=setS 0) (fe:=E_w_reach_0) (fun o:Nat=>PyData.int (o:Nat)) PyData.int (mn P c) (fun ρ=>∃ a,ρ=[a,some (wD m P c k b)]) (fun o=>o<P.length) (fun o ρ hol ⟨a,e⟩=>⟨[some (.int (o:Nat)),some (wD m P c k b)],by rw[e];rfl,⟨_,rfl⟩,?_⟩) (List.range P.length) [none,some (wD m P c k b)] ⟨_,rfl⟩ (fun o h=>List.mem_range.mp h)]
  ·show outD (((intsO (((List.range P.length).map (mn P c)).map PyData.int)).map fun ns=>PyData.int (maxOr 0 ns)).map Out.rt)=_
   rw[intsO_map]
   rfl
  ·unfold E_w_reach_0
   rw[callM_is (m:=m) (k:=k) (P:=P) (c:=c) (b:=b) (ds:=[.int (o:Nat)]) rfl rfl (by decide +kernel)]
   exact wtp_eq hol hc hl (h0 fun z=>by rw[z] at hol;exact absurd hol (Nat.not_lt_zero _))
 refine⟨_,e,?_⟩
 have nn:∀ x∈(List.range P.length).map (mn P c),0≤x:=fun x hx=>by
  obtain⟨n,h1,rfl⟩:=List.mem_map.mp hx
  have h2:=List.mem_range.mp h1
  obtain⟨⟨o,_,h3⟩,_⟩:=mn_is (P:=P) (n:=n) (h0 fun z=>by rw[z] at h2;exact absurd h2 (Nat.not_lt_zero _))
  rw[← h3]
  exact wy_nn _ _ _
 revert nn
 generalize (List.range P.length).map (mn P c)=l
 intro nn
 cases l with
 | nil=>exact⟨Int.le_refl _,.inl rfl,fun _ z=>nomatch z⟩
 | cons a r=>
  obtain⟨h1,h2⟩:=maxI_is r a
  exact⟨nn _ h1,.inr h1,h2⟩
end
theorem p25:powD (.int 10) (.int 25)=some (.int (10 ^ 25)):=rfl
theorem p30:powD (.int 10) (.int 30)=some (.int (10 ^ 30)):=rfl
theorem place_eq {ps:List Int}(hp:2≤ps.length)(hd:dgOk ps):∃ q:Int×Int,FI_l_place [.list (ps.map .int)]=some (encP q,ps.dropLast.dropLast.map .int):=by
 obtain⟨k,hk⟩:∃ k,ps.length=k+2:=⟨ps.length - 2,by omega⟩
 obtain⟨n1,l1⟩:=drop_ne (k:=k+1) hk
 obtain⟨n2,l2⟩:=drop_ne (k:=k) l1
 obtain⟨d1,d2⟩:=dg_last n1 hd
 obtain⟨d3,d4⟩:=dg_last n2 (dg_drop hd)
 generalize e1:ps.getLast n1=d at d1 d2
 generalize e2:ps.dropLast.getLast n2=n at d3 d4
 have fin:∀ q:Int×Int,(fun ρ:Rho=>condO (testD (bind2 (bind2 ((ρ[1]?).join) (some (.int 16)) modD) (some (.int 1)) eqD)) ((retI 0 (fun ρ=>shortD .tuple (consD (bind2 (bind2 ((ρ[2]?).join) (bind2 (some (.int 10)) (some (.int 25)) powD) mulD) (bind2 (some (.int 5)) (bind2 (some (.int 10)) (some (.int 30)) powD) mulD) subD) (consD (bind2 (bind2 ((ρ[1]?).join) (bind2 (some (.int 10)) (some (.int 25)) powD) mulD) (bind2 (some (.int 5)) (bind2 (some (.int 10)) (some (.int 30)) powD) mulD) subD) (some []))))) ρ) ((seqI (fun ρ=>setO 3 ρ (veilF [0] (fun ρ=>bind2 ((shortL (consD (some (.int 3)) (consD (some (.int 10)) (consD (some (.int 100)) (consD (some (.int 1000)) (some [])))))).map .list) (bind2 (bind2 ((ρ[1]?).join) (some (.int 16)) fdivD) (some (.int 4)) modD) ixD) ρ)) (retI 0 (fun ρ=>shortD .tuple (consD (bind2 (bind2 (bind2 ((ρ[1]?).join) (some (.int 64)) fdivD) ((ρ[3]?).join) modD) (bind2 ((ρ[3]?).join) (some (.int 2)) fdivD) subD) (consD (bind2 (bind2 ((ρ[2]?).join) ((ρ[3]?).join) modD) (bind2 ((ρ[3]?).join) (some (.int 2)) fdivD) subD) (some [])))))) ρ)) [some (.list (ps.dropLast.dropLast.map .int)),some (.int d),some (.int n),none]=some (.rt (.tuple [encP q,.list (ps.dropLast.dropLast.map .int)]))->FI_l_place [.list (ps.map .int)]=some (encP q,ps.dropLast.dropLast.map .int):=fun q h=>by
  have b:B_l_place [some (.list (ps.map .int)),none,none,none]=some (.rt (.tuple [encP q,.list (ps.dropLast.dropLast.map .int)])):=by
   unfold B_l_place
   rw[seqI_nx (ρ':=[some (.list (ps.dropLast.map .int)),some (.int d),none,none]) ?s1]
   case s1=>
    rw[pop_i n1 rfl,e1]
    rfl
   rw[seqI_nx (ρ':=[some (.list (ps.dropLast.dropLast.map .int)),some (.int d),some (.int n),none]) ?s2]
   case s2=>
    rw[pop_i n2 rfl,e2]
    rfl
   exact h
  show outI (B_l_place [some (.list (ps.map .int)),none,none,none])=_
  rw[b]
  rfl
 have m16:modD (.int d) (.int 16)=some (.int (d % 16)):=modD_ok (by decide)
 by_cases h16:d % 16=1
 ·refine⟨(n*10 ^ 25 - 5*10 ^ 30,d*10 ^ 25 - 5*10 ^ 30),fin _ ?_⟩
  show condO (testD (bind2 (modD (.int d) (.int 16)) (some (.int 1)) eqD)) (retI 0 _ _) _=_
  rw[m16,bind2_ss,eqD_int,h16,beq_self_eq_true,testD_s,condO_t]
  unfold retI
  show (shortD .tuple (consD (bind2 (bind2 (some (.int n)) (powD (.int 10) (.int 25)) mulD) (bind2 (some (.int 5)) (powD (.int 10) (.int 30)) mulD) subD) (consD (bind2 (bind2 (some (.int d)) (powD (.int 10) (.int 25)) mulD) (bind2 (some (.int 5)) (powD (.int 10) (.int 30)) mulD) subD) (some [])))).bind _=_
  rw[p25,p30,bind2_ss,bind2_ss,bind2_ss,mulD_s1 (a:=n) (by omega),mulD_s1 (a:=d) (by omega),mulD_s1 (a:=5) (by decide),bind2_ss,bind2_ss,subD_ok,subD_ok]
  rfl
 ·have sz:∃ z,(0:Int)<z∧z≤1000∧ixD (.list [.int 3,.int 10,.int 100,.int 1000]) (.int (d / 16 % 4))=some (.int z):=by
   obtain⟨z,h1,h2⟩:=pick [3,10,100,1000] (k:=d / 16 % 4) (by omega) (by show d / 16 % 4<4;omega)
   refine⟨z,?_,?_,h2⟩
   ·simp at h1;omega
   ·simp at h1;omega
  obtain⟨z,z0,z1,ez⟩:=sz
  refine⟨(d / 64 % z - z / 2,n % z - z / 2),fin _ ?_⟩
  show condO (testD (bind2 (modD (.int d) (.int 16)) (some (.int 1)) eqD)) _ (seqI _ _ _)=_
  rw[m16,bind2_ss,eqD_int,beq_eq_false_iff_ne.mpr h16,testD_s,condO_f]
  rw[seqI_nx (ρ':=[some (.list (ps.dropLast.dropLast.map .int)),some (.int d),some (.int n),some (.int z)]) ?s1]
  case s1=>
   show setO 3 _ (bind2 (some (.list [.int 3,.int 10,.int 100,.int 1000])) (bind2 (fdivD (.int d) (.int 16)) (some (.int 4)) modD) ixD)=_
   rw[fdivD_ok (by decide) rfl,bind2_ss,modD_ok (by decide),bind2_ss,ez]
   rfl
  unfold retI
  show (shortD .tuple (consD (bind2 (bind2 (fdivD (.int d) (.int 64)) (some (.int z)) modD) (fdivD (.int z) (.int 2)) subD) (consD (bind2 (modD (.int n) (.int z)) (fdivD (.int z) (.int 2)) subD) (some [])))).bind _=_
  rw[fdivD_ok (a:=d) (by decide) rfl,fdivD_ok (a:=z) (by decide) rfl,bind2_ss,modD_ok z0,modD_ok z0,bind2_ss,bind2_ss,subD_ok,subD_ok]
  rfl
theorem ck_x {m:Int}:FX_p_check_many [.int m]=some (if m<1 then .exc (excD "NoMany" []) else .ret .none):=by
 show outX (condO (testD (ltD (.int m) (.int 1))) (some (.ex (excD "NoMany" []) [some (.int m)])) (some (.nx [some (.int m)])))=_
 rw[ltD_ok]
 by_cases h:m<1
 ·rw[decide_eq_true h,if_pos h];rfl
 ·rw[decide_eq_false h,if_neg h];rfl
theorem init_eq {m:Int}(h:1≤m):newW "Watch" FR_w_init (some [.int m])=some (wD m [] [] 0 none):=by
 have ck:F_p_check_many [.int m]=some .none:=by
  unfold F_p_check_many pureX
  rw[ck_x,if_neg (by omega)]
  rfl
 have b:B_w_init [some (objD "Watch" [] []),some (.int m)]=some (.rt (.tuple [.none,wD m [] [] 0 none])):=by
  unfold B_w_init
  rw[seqI_nx (ρ':=[some (objD "Watch" [] []),some (.int m)]) ?s1]
  case s1=>
   show dropO _ (F_p_check_many [.int m])=_
   rw[ck]
   rfl
  rfl
 show (FR_w_init [objD "Watch" [] [],.int m]).bind _=_
 rw[show FR_w_init [objD "Watch" [] [],.int m]=outRc (B_w_init [some (objD "Watch" [] []),some (.int m)]) from rfl,b]
 rfl
def mnL:List Int->Int
 | []=>0
 | n::r=>minI n r
theorem mnL_eq {l:List Int}(h:l≠[]):minLD (.list (l.map .int))=some (.int (mnL l)):=by
 cases l with
 | nil=>exact absurd rfl h
 | cons n r=>
  show (intsO ((n::r).map .int)).bind _=_
  rw[intsO_map]
  rfl
theorem mnL_is {l:List Int}(h:l≠[]):mnL l∈l∧∀ x∈l,mnL l≤x:=by
 cases l with
 | nil=>exact absurd rfl h
 | cons n r=>exact minI_is r n
def addW (P:List (Int×Int))(n:Nat)(c:List Nat)(k:Int):List Nat:=if isFar P k n c=true then c++[n] else c
def stepW (m:Int)(P:List (Int×Int))(n:Nat)(c:List Nat)(k:Int)(b:Option (List Nat)):List Nat×Int×Option (List Nat):=
 if ((addW P n c k).length:Int)≤m then (addW P n c k,k,b)
 else (kp P (mnL (wsU P (addW P n c k) (addW P n c k).length)) [] (addW P n c k),mnL (wsU P (addW P n c k) (addW P n c k).length),some (addW P n c k))
theorem come_ok {m k:Int}{P:List (Int×Int)}{c:List Nat}{b:Option (List Nat)}(h:Wi m P c k b)(h1:1≤m)(h6:m≤6∨1000≤m)(hcP:c.length≤P.length)(hP:P.length<900)(q:Int×Int){s:List Nat×Int×Option (List Nat)}(es:stepW m (P++[q]) P.length c k b=s) :
  Wi m (P++[q]) s.1 s.2.1 s.2.2∧s.1.length≤P.length+1∧FR_w_come [wD m P c k b,.int q.1,.int q.2]=some (.int (P.length:Nat),wD m (P++[q]) s.1 s.2.1 s.2.2):=by
 have hle:=h.le
 have hk0:=h.k0
 have L1:(P++[q]).length=P.length+1:=by rw[List.length_append,List.length_singleton]
 subst es
 unfold stepW
 generalize e1:addW (P++[q]) P.length c k=c1
 unfold addW at e1
 have lt1:∀ o∈c1,o<(P++[q]).length:=fun o z=>by
  rw[L1]
  rw[← e1] at z
  split at z
  ·rcases List.mem_append.mp z with z | z
   ·have:=h.lt o z;omega
   ·rw[List.mem_singleton.mp z];omega
  ·have:=h.lt o z;omega
 have ap1:Apt (P++[q]) (2*k+1) c1:=by
  rw[← e1]
  split
  ·next z=>exact (h.ap.app q h.lt).snoc (far_iff.mp z)
  ·exact h.ap.app q h.lt
 have nr1:∃ o∈c1,wy (P++[q]) P.length o≤2*k:=by
  by_cases z:isFar (P++[q]) k P.length c=true
  ·exact⟨P.length,by rw[← e1,if_pos z];exact List.mem_append_right _ (List.mem_singleton.mpr rfl),by rw[wy,sd_self];omega⟩
  ·obtain⟨o,h2,h3⟩:=far_not z
   exact⟨o,by rw[← e1,if_neg z];exact h2,h3⟩
 have cov1:∀ n,n<(P++[q]).length->∃ o∈c1,wy (P++[q]) n o≤4*k:=fun n hn=>by
  rw[L1] at hn
  by_cases hn2:n<P.length
  ·obtain⟨o,h2,h3⟩:=h.cov n hn2
   refine⟨o,?_,by rw[wy_app P q hn2 (h.lt o h2)];exact h3⟩
   rw[← e1]
   split
   ·exact List.mem_append_left _ h2
   ·exact h2
  ·obtain rfl:n=P.length:=by omega
   obtain⟨o,h2,h3⟩:=nr1
   exact⟨o,h2,by omega⟩
 have len1:c1.length≤c.length+1:=by rw[← e1];split <;> (try rw[List.length_append,List.length_singleton]) <;> omega
 by_cases g:(c1.length:Int)≤m
 ·rw[if_pos g]
  refine⟨⟨hk0,lt1,g,ap1,cov1,?_⟩,by dsimp only;omega,come_0 q hP h.lt (by omega) e1 g⟩
  rcases h.bar with h2 | ⟨h2,e,h3,h4,h5,h7⟩
  ·exact .inl h2
  ·exact .inr ⟨h2,e,h3,h4,fun o z=>by have:=h5 o z;omega,h7.app q h5⟩
 ·rw[if_neg g]
  have hne:wsU (P++[q]) c1 c1.length≠[]:=fun z=>by
   have:wy (P++[q]) (c1.getD 1 0) (c1.getD 0 0)∈wsU (P++[q]) c1 c1.length:=wsU_mem.mpr ⟨0,1,by omega,by omega,by omega,rfl⟩
   rw[z] at this
   exact nomatch this
  have hw:=mnL_eq hne
  obtain⟨hw1,hw2⟩:=mnL_is hne
  generalize mnL (wsU (P++[q]) c1 c1.length)=w at hw hw1 hw2 ⊢
  dsimp only
  obtain⟨i,j,h2,h3,h4,h5⟩:=wsU_mem.mp hw1
  have wk:2*k+1≤w:=by rw[← h5];exact ap1 i j h2 h3
  have apw:Apt (P++[q]) w c1:=fun i j h2 h3=>hw2 _ (wsU_mem.mpr ⟨i,j,h2,h3,by omega,rfl⟩)
  have aq:=kp_ap (P:=P++[q]) (w:=w) c1 [] (fun _ _ _ z=>absurd z (Nat.not_lt_zero _))
  have lq:(kp (P++[q]) w [] c1).length<c1.length:=by
   rcases kp_len (P:=P++[q]) (w:=w) c1 [] with z | z
   ·rw[List.nil_append] at z
    rw[z] at aq
    have:=aq i j h2 h3
    omega
   ·rw[List.length_nil] at z
    omega
  refine⟨⟨by omega,fun o z=>lt1 o ((kp_sub c1 [] o z).resolve_left (fun y=>nomatch y)),by omega,aq,fun n hn=>?_,.inr ⟨by omega,c1,rfl,by omega,lt1,apw⟩⟩,by omega,come_1 q hP h.lt (by omega) e1 g hw (by omega)⟩
  ·obtain⟨o,h7,h8⟩:=cov1 n hn
   obtain⟨o',h9,h10⟩:=kp_cov (P:=P++[q]) (w:=w) (by omega) c1 [] o h7
   refine⟨o',h9,?_⟩
   have:=sd_tri ((P++[q]).getD n (0,0)) ((P++[q]).getD o (0,0)) ((P++[q]).getD o' (0,0))
   unfold wy at h8 h10 ⊢
   omega
def mD (m:Int)(P:List (Int×Int))(c:List Nat)(k:Int)(b:Option (List Nat)):PyData:=mkDct [.str (Str.ofString "many"),.str (Str.ofString "folk"),.str (Str.ofString "posts"),.str (Str.ofString "mark"),.str (Str.ofString "bar")] [.int m,encL P,encN c,.int k,encB b]
section
variable {m k:Int}{P:List (Int×Int)}{c:List Nat}{b:Option (List Nat)}
theorem g_many:dgetD "many" (mD m P c k b)=some (.int m):=by kernel_rfl
theorem g_folk:dgetD "folk" (mD m P c k b)=some (encL P):=by kernel_rfl
theorem g_posts:dgetD "posts" (mD m P c k b)=some (encN c):=by kernel_rfl
theorem g_mark:dgetD "mark" (mD m P c k b)=some (.int k):=by kernel_rfl
theorem g_bar:dgetD "bar" (mD m P c k b)=some (encB b):=by kernel_rfl
theorem u_folk (Q:List (Int×Int)):dputD "folk" (encL Q) (mD m P c k b)=some (mD m Q c k b):=by kernel_rfl
theorem u_posts (d:List Nat):dputD "posts" (encN d) (mD m P c k b)=some (mD m P d k b):=by kernel_rfl
theorem u_mark (w:Int):dputD "mark" (.int w) (mD m P c k b)=some (mD m P c w b):=by kernel_rfl
theorem u_bar (e:List Nat):dputD "bar" (encN e) (mD m P c k b)=some (mD m P c k (some e)):=by kernel_rfl
theorem lway_eq {i j:Nat}(hi:i<P.length)(hj:j<P.length):F_l_way [mD m P c k b,.int (i:Nat),.int (j:Nat)]=some (.int (wy P i j)):=by
 have q:B_l_way [some (mD m P c k b),some (.int (i:Nat)),some (.int (j:Nat)),none,none,none,none]=some (.rt (.int (wy P i j))):=by
  unfold B_l_way
  rw[seqF_nx (ρ':=[some (mD m P c k b),some (.int (i:Nat)),some (.int (j:Nat)),some (.int (P.getD i (0,0)).1),some (.int (P.getD i (0,0)).2),none,none]) ?a1]
  case a1=>
   show asgO _ _ (bind2 (dgetD "folk" (mD m P c k b)) (some (.int (i:Nat))) ixD)=_
   rw[g_folk,bind2_ss,ix_pl hi]
   rfl
  rw[seqF_nx (ρ':=[some (mD m P c k b),some (.int (i:Nat)),some (.int (j:Nat)),some (.int (P.getD i (0,0)).1),some (.int (P.getD i (0,0)).2),some (.int (P.getD j (0,0)).1),some (.int (P.getD j (0,0)).2)]) ?a2]
  case a2=>
   show asgO _ _ (bind2 (dgetD "folk" (mD m P c k b)) (some (.int (j:Nat))) ixD)=_
   rw[g_folk,bind2_ss,ix_pl hj]
   rfl
  rfl
 show outD (B_l_way [some (mD m P c k b),some (.int (i:Nat)),some (.int (j:Nat)),none,none,none,none])=_
 rw[q]
 rfl
theorem encN_int (l:List Nat):encN l=.list ((l.map fun x:Nat=>(x:Int)).map .int):=by
 unfold encN
 rw[List.map_map]
 rfl
theorem lfar_eq {n:Nat}(hn:n<P.length){os:List Nat}(ho:∀ o∈os,o<P.length)(hl:os.length≤900):F_l_is_far [mD m P c k b,.int (n:Nat),encN os]=some (.bool (isFar P k n os)):=by
 show outD ((bind2 ((compO (setS 0) I_l_is_far_0 E_l_is_far_1 (some (os.map fun x=>.int (x:Nat))) [none,some (mD m P c k b),some (.int (n:Nat))]).map PyData.list) (some (.list [])) eqD).map Out.rt)=_
 rw[compO_s (by rw[List.length_map];omega),compD_filter (S:=setS 0) (ft:=I_l_is_far_0) (fe:=E_l_is_far_1) (fun o:Nat=>PyData.int (o:Nat)) (fun o=>decide (wy P n o≤2*k)) (fun ρ=>∃ a,ρ=[a,some (mD m P c k b),some (.int (n:Nat))]) (fun o=>o<P.length) (fun o ρ hol ⟨a,e⟩=>⟨[some (.int (o:Nat)),some (mD m P c k b),some (.int (n:Nat))],by rw[e];rfl,⟨_,rfl⟩,?_,rfl⟩) os [none,some (mD m P c k b),some (.int (n:Nat))] ⟨_,rfl⟩ ho]
 ·show outD ((eqD (encN (os.filter fun o=>decide (wy P n o≤2*k))) (.list (([]:List Int).map .int))).map Out.rt)=_
  rw[encN_int,eqD_ints]
  show some (PyData.bool _)=_
  congr 2
  unfold isFar
  rw[Bool.eq_iff_iff,decide_eq_true_iff,List.map_eq_nil_iff,List.filter_eq_nil_iff,List.all_eq_true]
  exact⟨fun h o z=>by have:=h o z;rw[decide_eq_true_iff] at this ⊢;omega,fun h o z=>by have:=h o z;rw[decide_eq_true_iff] at this ⊢;omega⟩
 ·unfold I_l_is_far_0
  show testD (bind2 (F_l_way [mD m P c k b,.int (n:Nat),.int (o:Nat)]) (bind2 (some (.int 2)) (dgetD "mark" (mD m P c k b)) mulD) leD)=_
  rw[lway_eq hn hol,g_mark,bind2_ss,mulD_s1 (by decide),bind2_ss,leD_ok]
  rfl
theorem lt_body {p:Nat}(hp:p<c.length)(hc:∀ o∈c,o<P.length)(hl:c.length≤20)(x3 x4:Option PyData) :
  L_l_thinned_2 [some (mD m P c k b),some (.list ((wsU P c p).map .int)),some (.int (p:Nat)),x3,x4]=some (.nx [some (mD m P c k b),some (.list ((wsU P c (p+1)).map .int)),some (.int (p:Nat)),x3,x4]):=by
 have hcp:c.getD p 0<P.length:=hc _ (by rw[List.getD_eq_getElem?_getD,List.getElem?_eq_getElem hp];exact List.getElem_mem hp)
 have hix:ixD (encN c) (.int (p:Nat))=some (.int (c.getD p 0:Nat)):=by
  unfold encN
  exact atI_nat (by rw[List.getElem?_map,List.getElem?_eq_getElem hp,List.getD_eq_getElem?_getD,List.getElem?_eq_getElem hp];rfl)
 show setO 1 _ ((catL (some (.list ((wsU P c p).map .int))) ((Option.filter lf.go (compO (setS 0) (fun _=>some true) E_l_thinned_1 (((cutD (dgetD "posts" (mD m P c k b)) (some none) (some (some ((p:Nat):Int)))).map .list).bind listD) [none,some (mD m P c k b),some (.int (p:Nat))])).map .list)).map .list)=_
 rw[g_posts,show encN c=.list (c.map fun x=>.int (x:Nat)) from rfl,cut_take (fun x:Nat=>PyData.int (x:Nat)) c (by omega)]
 show setO 1 _ ((catL (some (.list ((wsU P c p).map .int))) ((Option.filter lf.go (compO (setS 0) (fun _=>some true) E_l_thinned_1 (some ((c.take p).map fun x:Nat=>PyData.int (x:Nat))) [none,some (mD m P c k b),some (.int (p:Nat))])).map .list)).map .list)=_
 rw[compO_s (by rw[List.length_map,List.length_take];omega),compD_map (S:=setS 0) (fe:=E_l_thinned_1) (fun o:Nat=>PyData.int (o:Nat)) PyData.int (fun o=>wy P (c.getD p 0) o) (fun ρ=>∃ a,ρ=[a,some (mD m P c k b),some (.int (p:Nat))]) (fun o=>o<P.length) (fun o ρ hol ⟨a,e⟩=>⟨[some (.int (o:Nat)),some (mD m P c k b),some (.int (p:Nat))],by rw[e];rfl,⟨_,rfl⟩,?_⟩) (c.take p) [none,some (mD m P c k b),some (.int (p:Nat))] ⟨_,rfl⟩ (fun o z=>hc o (List.mem_of_mem_take z))]
 ·have hlen:=wsU_len P c p (by omega)
  have h20:p*c.length≤20*20:=Nat.mul_le_mul (by omega) hl
  rw[filt (lf_zs _)]
  show setO 1 _ ((if decide (((wsU P c p).map PyData.int++(wsP P c p).map PyData.int).length≤1000)=true then some ((wsU P c p).map PyData.int++(wsP P c p).map PyData.int) else none).map .list)=_
  rw[if_pos (decide_eq_true (by rw[List.length_append,List.length_map,List.length_map,wsP,List.length_map,List.length_take];omega)),← List.map_append]
  rfl
 ·unfold E_l_thinned_1
  show (consD (some (mD m P c k b)) (consD (bind2 (dgetD "posts" (mD m P c k b)) (some (.int (p:Nat))) ixD) (consD (some (.int (o:Nat))) (some [])))).bind F_l_way=_
  rw[g_posts,bind2_ss,hix]
  exact lway_eq hcp hol
theorem lt_loop2:∀ (t acc:List Nat),(∀ o∈t,o<P.length)->(∀ o∈acc,o<P.length)->acc.length+t.length≤900->∀ x1 x2 x4,∃ y4,forD (setS 4) L_l_thinned_0 (t.map fun x:Nat=>PyData.int (x:Nat)) [some (mD m P c k b),x1,x2,some (encN acc),x4]=some (.nx [some (mD m P c k b),x1,x2,some (encN (kp P k acc t)),y4])
 | [],acc,_,_,_,x1,x2,x4=>⟨x4,rfl⟩
 | n::r,acc,ht,ho,hl,x1,x2,x4=>by
  rw[List.length_cons] at hl
  have hn:=ht n List.mem_cons_self
  obtain⟨y4,h⟩:=lt_loop2 r (if isFar P k n acc=true then acc++[n] else acc) (fun o z=>ht o (List.mem_cons_of_mem _ z)) (fun o z=>by
   split at z
   ·rcases List.mem_append.mp z with z | z
    ·exact ho o z
    ·rw[List.mem_singleton.mp z];exact hn
   ·exact ho o z) (by split <;> (try rw[List.length_append,List.length_singleton]) <;> omega) x1 x2 (some (.int (n:Nat)))
  refine⟨y4,?_⟩
  rw[List.map_cons]
  show (L_l_thinned_0 [some (mD m P c k b),x1,x2,some (encN acc),some (.int (n:Nat))]).bind _=_
  rw[show L_l_thinned_0 [some (mD m P c k b),x1,x2,some (encN acc),some (.int (n:Nat))]=some (.nx [some (mD m P c k b),x1,x2,some (encN (if isFar P k n acc=true then acc++[n] else acc)),some (.int (n:Nat))]) from ?_]
  ·exact h
  ·unfold L_l_thinned_0
   show condO (testD (F_l_is_far [mD m P c k b,.int (n:Nat),encN acc])) _ _=_
   rw[lfar_eq hn ho (by omega)]
   by_cases h:isFar P k n acc=true
   ·rw[h,if_pos rfl]
    show setO 3 _ ((if decide (((acc.map fun x:Nat=>PyData.int (x:Nat))++[PyData.int (n:Nat)]).length≤1000)=true then some ((acc.map fun x:Nat=>PyData.int (x:Nat))++[PyData.int (n:Nat)]) else none).map .list)=_
    rw[if_pos (decide_eq_true (by rw[List.length_append,List.length_map,List.length_singleton];omega))]
    unfold encN
    rw[List.map_append]
    rfl
   ·rw[Bool.eq_false_iff.mpr h,if_neg (by decide)]
    rfl
end
theorem dput_nx {i:Nat}{key:Str}{f:Rho->Option PyData}{ρ:Rho}{x d d':PyData}(h1:f ρ=some x)(h2:(ρ[i]?).join=some d)(h3:dputD key x d=some d'):dputF i key f ρ=some (.nx (ρ.set i (some d'))):=by
 unfold dputF
 rw[h1,Option.bind_some,h2,Option.bind_some,h3]
 rfl
section
variable {m k:Int}{P:List (Int×Int)}{c:List Nat}{b:Option (List Nat)}
theorem thin_eq (hc:∀ o∈c,o<P.length)(hl:c.length≤20){w:Int}(hw:minLD (.list ((wsU P c c.length).map .int))=some (.int w)):FR_l_thinned [mD m P c k b]=some (.none,mD m P (kp P w [] c) w (some c)):=by
 obtain⟨_,t,_,h1⟩:=forD_rng (k:=2) (F:=L_l_thinned_2) (α:=Unit) (fun _ _=>True) (fun i _ t=>[some (mD m P c k b),some (.list ((wsU P c i).map .int)),t 0,none,none]) c.length () (fun _=>none) trivial fun i x t hi _=>⟨(),fun _=>some (.int (i:Nat)),trivial,lt_body hi hc hl none none⟩
 obtain⟨y4,h2⟩:=lt_loop2 (m:=m) (c:=c) (b:=some c) (k:=w) c [] hc (fun _ z=>nomatch z) (by rw[List.length_nil];omega) (some (.list ((wsU P c c.length).map .int))) (t 0) none
 have q:B_l_thinned [some (mD m P c k b),none,none,none,none]=some (.rt (.tuple [.none,mD m P (kp P w [] c) w (some c)])):=by
  unfold B_l_thinned
  rw[seqI_nx (ρ':=[some (mD m P c k b),some (.list []),none,none,none]) rfl]
  rw[seqI_nx (ρ':=[some (mD m P c k b),some (.list ((wsU P c c.length).map .int)),t 0,none,none]) ?s1]
  case s1=>
   show forO _ L_l_thinned_2 ((consD ((consD (dgetD "posts" (mD m P c k b)) (some [])).bind lenD) (some [])).bind rng1D) _=_
   rw[g_posts]
   show forO _ L_l_thinned_2 (rng1D [.int ((c.map fun x:Nat=>PyData.int (x:Nat)).length:Nat)]) _=_
   rw[List.length_map,rng1_ok (by omega) (by omega),Int.toNat_natCast]
   exact h1
  rw[seqI_nx (ρ':=[some (mD m P c w b),some (.list ((wsU P c c.length).map .int)),t 0,none,none]) ?s2]
  case s2=>
   exact dput_nx hw rfl (u_mark w)
  rw[seqI_nx (ρ':=[some (mD m P c w (some c)),some (.list ((wsU P c c.length).map .int)),t 0,none,none]) ?s3]
  case s3=>
   exact dput_nx g_posts rfl (u_bar c)
  rw[seqI_nx (ρ':=[some (mD m P c w (some c)),some (.list ((wsU P c c.length).map .int)),t 0,some (encN []),none]) rfl]
  rw[seqI_nx (ρ':=[some (mD m P c w (some c)),some (.list ((wsU P c c.length).map .int)),t 0,some (encN (kp P w [] c)),y4]) ?s4]
  case s4=>
   show forO _ L_l_thinned_0 ((dgetD "posts" (mD m P c w (some c))).bind listD) _=_
   rw[g_posts]
   exact h2
  rw[seqI_nx (ρ':=[some (mD m P (kp P w [] c) w (some c)),some (.list ((wsU P c c.length).map .int)),t 0,some (encN (kp P w [] c)),y4]) ?s5]
  case s5=>
   exact dput_nx rfl rfl (u_posts _)
  rfl
 show outRc (B_l_thinned [some (mD m P c k b),none,none,none,none])=_
 rw[q]
 rfl
theorem cat_one (ds:List PyData)(d:PyData)(h:ds.length≤900):(catL (some (.list ds)) (some (.list [d]))).map PyData.list=some (.list (ds++[d])):=by
 show (if decide ((ds++[d]).length≤1000)=true then some (ds++[d]) else none).map PyData.list=_
 rw[if_pos (decide_eq_true (by rw[List.length_append,List.length_singleton];omega))]
 rfl
theorem lcome_if (q:Int×Int)(hP:P.length<900)(hc:∀ o∈c,o<P.length)(hl:c.length≤900){c1:List Nat}(e1:(if isFar (P++[q]) k P.length c=true then c++[P.length] else c)=c1) :
  ∃ G:Rho->Option Out,(∀ ρ,G ρ=seqI (fun ρ=>condO (testD (bind2 ((consD (((ρ[0]?).join).bind (dgetD "posts")) (some [])).bind lenD) (((ρ[0]?).join).bind (dgetD "many")) gtD)) ((callDst 0 FR_l_thinned) ρ) (some (.nx ρ))) (retDc (fun ρ=>(ρ[2]?).join)) ρ)∧B_l_come [some (mD m P c k b),some (encP q),none]=G [some (mD m (P++[q]) c1 k b),some (encP q),some (.int (P.length:Nat))]:=by
 refine⟨_,fun _=>rfl,?_⟩
 unfold B_l_come
 rw[seqI_nx (ρ':=[some (mD m P c k b),some (encP q),some (.int (P.length:Nat))]) ?s1]
 case s1=>
  show setO 2 _ ((consD (dgetD "folk" (mD m P c k b)) (some [])).bind lenD)=_
  rw[g_folk]
  show setO 2 _ (some (.int ((P.map encP).length:Nat)))=_
  rw[List.length_map]
  rfl
 rw[seqI_nx (ρ':=[some (mD m (P++[q]) c k b),some (encP q),some (.int (P.length:Nat))]) ?s2]
 case s2=>
  refine dput_nx (i:=0) (key:="folk") (x:=encL (P++[q])) (ρ:=[some (mD m P c k b),some (encP q),some (.int (P.length:Nat))]) ?_ rfl (u_folk (P++[q]))
  show (catL (dgetD "folk" (mD m P c k b)) (some (.list [encP q]))).map PyData.list=_
  rw[g_folk,show encL P=.list (P.map encP) from rfl,cat_one _ _ (by rw[List.length_map];omega),show PyData.list (P.map encP++[encP q])=encL (P++[q]) by unfold encL;rw[List.map_append];rfl]
 rw[seqI_nx (ρ':=[some (mD m (P++[q]) c1 k b),some (encP q),some (.int (P.length:Nat))]) ?s3]
 case s3=>
  show condO (testD ((consD (some (mD m (P++[q]) c k b)) (consD (some (.int (P.length:Nat))) (consD (dgetD "posts" (mD m (P++[q]) c k b)) (some [])))).bind F_l_is_far)) _ _=_
  rw[g_posts]
  show condO (testD (F_l_is_far [mD m (P++[q]) c k b,.int (P.length:Nat),encN c])) _ _=_
  rw[lfar_eq (by rw[List.length_append,List.length_singleton];omega) (fun o z=>by have:=hc o z;rw[List.length_append];omega) (by omega)]
  by_cases h:isFar (P++[q]) k P.length c=true
  ·rw[if_pos h] at e1
   rw[h,← e1,testD_s,condO_t]
   refine dput_nx (i:=0) (key:="posts") (x:=encN (c++[P.length])) (ρ:=[some (mD m (P++[q]) c k b),some (encP q),some (.int (P.length:Nat))]) ?_ rfl (u_posts (c++[P.length]))
   show (catL (dgetD "posts" (mD m (P++[q]) c k b)) (some (.list [.int (P.length:Nat)]))).map PyData.list=_
   rw[g_posts,show encN c=.list (c.map fun x:Nat=>PyData.int (x:Nat)) from rfl,cat_one _ _ (by rw[List.length_map];omega),show PyData.list ((c.map fun x:Nat=>PyData.int (x:Nat))++[.int (P.length:Nat)])=encN (c++[P.length]) by unfold encN;rw[List.map_append];rfl]
  ·rw[if_neg h] at e1
   rw[Bool.eq_false_iff.mpr h,← e1]
   rfl
theorem lcome_t {x y:Option PyData}:testD (bind2 ((consD (dgetD "posts" (mD m P c k b)) (some [])).bind lenD) (dgetD "many" (mD m P c k b)) gtD)=some (decide (m<(c.length:Nat))):=by
 rw[g_posts,g_many]
 show testD (bind2 (some (.int ((c.map fun x:Nat=>PyData.int (x:Nat)).length:Nat))) (some (.int m)) gtD)=_
 rw[List.length_map,bind2_ss,gtD_ok]
 rfl
end
theorem lcome_ok {m k:Int}{P:List (Int×Int)}{c:List Nat}{b:Option (List Nat)}(h:Wi m P c k b)(h1:1≤m)(h6:m≤6∨1000≤m)(hcP:c.length≤P.length)(hP:P.length<900)(q:Int×Int){s:List Nat×Int×Option (List Nat)}(es:stepW m (P++[q]) P.length c k b=s) :
  FR_l_come [mD m P c k b,encP q]=some (.int (P.length:Nat),mD m (P++[q]) s.1 s.2.1 s.2.2):=by
 have L1:(P++[q]).length=P.length+1:=by rw[List.length_append,List.length_singleton]
 have hle:=h.le
 subst es
 unfold stepW
 generalize e1:addW (P++[q]) P.length c k=c1
 unfold addW at e1
 obtain⟨G,hG,e⟩:=lcome_if (m:=m) (b:=b) q hP h.lt (by omega) e1
 rw[hG] at e
 have len1:c1.length≤c.length+1:=by rw[← e1];split <;> (try rw[List.length_append,List.length_singleton]) <;> omega
 show outRc (B_l_come [some (mD m P c k b),some (encP q),none])=_
 rw[e]
 by_cases g:(c1.length:Int)≤m
 ·rw[if_pos g,seqI_nx (ρ':=[some (mD m (P++[q]) c1 k b),some (encP q),some (.int (P.length:Nat))]) ?s1]
  case s1=>
   show condO (testD (bind2 ((consD (dgetD "posts" (mD m (P++[q]) c1 k b)) (some [])).bind lenD) (dgetD "many" (mD m (P++[q]) c1 k b)) gtD)) _ _=_
   rw[lcome_t (x:=none) (y:=none),decide_eq_false (by omega)]
   rfl
  rfl
 ·have hne:wsU (P++[q]) c1 c1.length≠[]:=fun z=>by
   have:wy (P++[q]) (c1.getD 1 0) (c1.getD 0 0)∈wsU (P++[q]) c1 c1.length:=wsU_mem.mpr ⟨0,1,by omega,by omega,by omega,rfl⟩
   rw[z] at this
   exact nomatch this
  have lt1:∀ o∈c1,o<(P++[q]).length:=fun o z=>by
   rw[L1]
   rw[← e1] at z
   split at z
   ·rcases List.mem_append.mp z with z | z
    ·have:=h.lt o z;omega
    ·rw[List.mem_singleton.mp z];omega
   ·have:=h.lt o z;omega
  rw[if_neg g,seqI_nx (ρ':=[some (mD m (P++[q]) (kp (P++[q]) (mnL (wsU (P++[q]) c1 c1.length)) [] c1) (mnL (wsU (P++[q]) c1 c1.length)) (some c1)),some (encP q),some (.int (P.length:Nat))]) ?s1]
  case s1=>
   show condO (testD (bind2 ((consD (dgetD "posts" (mD m (P++[q]) c1 k b)) (some [])).bind lenD) (dgetD "many" (mD m (P++[q]) c1 k b)) gtD)) _ _=_
   rw[lcome_t (x:=none) (y:=none),decide_eq_true (by omega)]
   show (FR_l_thinned [mD m (P++[q]) c1 k b]).map (fun r=>Out.nx [some r.2,some (encP q),some (.int (P.length:Nat))])=_
   rw[thin_eq lt1 (by omega) (mnL_eq hne)]
   rfl
  rfl
theorem eqv_P:∀ P:List (Int×Int),PyData.eqvAll (P.map encP) (P.map encP)=true
 | []=>rfl
 | p::r=>by
  rw[List.map_cons,PyData.eqvAll,eqv_P r]
  simp[encP,PyData.eqv,PyData.eqvAll]
theorem lay_P:∀ P:List (Int×Int),PyData.canLayAll0 (P.map encP)=true∧PyData.depthAll (P.map encP)≤2
 | []=>⟨rfl,by simp[PyData.depthAll]⟩
 | p::r=>by
  obtain⟨h1,h2⟩:=lay_P r
  refine⟨by rw[List.map_cons,PyData.canLayAll0,h1];rfl,?_⟩
  rw[List.map_cons,PyData.depthAll]
  simp only[encP,PyData.depth,PyData.depthAll]
  omega
theorem neD_P (P:List (Int×Int)):neD (encL P) (encL P)=some (.bool false):=by
 obtain⟨h1,h2⟩:=lay_P P
 have sh:SeqAt.shaped (.list (P.map encP))=true:=by
  simp[SeqAt.shaped,PyData.canLay0,PyData.depth,h1]
  omega
 unfold encL
 simp only[neD,sh,Bool.and_self,if_true,PyData.eqv,eqv_P]
 rfl
theorem neD_i (a:Int):neD (.int a) (.int a)=some (.bool false):=by
 show some (PyData.bool (!(PyData.eqv (.int a) (.int a))))=_
 simp[PyData.eqv]
theorem neD_told (c:List Nat)(b:Option (List Nat)):neD (.list [encN c,encB b]) (.list [encN c,encB b])=some (.bool false):=by
 rw[encN_int]
 generalize (c.map fun x:Nat=>(x:Int))=xs
 obtain⟨h1,h2⟩:=lay_ints xs
 have e1:PyData.eqvAll (xs.map PyData.int) (xs.map PyData.int)=true:=by rw[eqv_ints2,decide_eq_true rfl]
 cases b with
 | none=>
  have sh:SeqAt.shaped (.list [.list (xs.map .int),encB none])=true:=by
   simp[SeqAt.shaped,encB,PyData.canLay0,PyData.canLayAll0,PyData.depth,PyData.depthAll,h1]
   omega
  simp only[neD,sh,Bool.and_self,if_true]
  simp[encB,PyData.eqv,PyData.eqvAll,e1]
 | some e=>
  rw[show encB (some e)=.list ((e.map fun x:Nat=>(x:Int)).map .int) from encN_int e]
  generalize (e.map fun x:Nat=>(x:Int))=ys
  obtain⟨h3,h4⟩:=lay_ints ys
  have e2:PyData.eqvAll (ys.map PyData.int) (ys.map PyData.int)=true:=by rw[eqv_ints2,decide_eq_true rfl]
  have sh:SeqAt.shaped (.list [.list (xs.map .int),.list (ys.map .int)])=true:=by
   simp[SeqAt.shaped,PyData.canLay0,PyData.canLayAll0,PyData.depth,PyData.depthAll,h1,h3]
   omega
  simp only[neD,sh,Bool.and_self,if_true]
  simp[PyData.eqv,PyData.eqvAll,e1,e2]
theorem wholes_eq (ns:List Int)(h:ns.length≤900):F_l_wholes [.list (ns.map .int)]=some (.bool true):=by
 show outD ((andV (isD "list" (.list (ns.map .int))) (bind2 ((compO (setS 0) I_l_wholes_0 E_l_wholes_1 (some (ns.map .int)) [none]).map PyData.list) (some (.list [])) eqD)).map Out.rt)=_
 rw[compO_s (by rw[List.length_map];omega),compD_filter (S:=setS 0) (ft:=I_l_wholes_0) (fe:=E_l_wholes_1) PyData.int (fun _=>false) (fun ρ=>∃ a,ρ=[a]) (fun _=>True) (fun o ρ _ ⟨a,e⟩=>⟨[some (.int o)],by rw[e];rfl,⟨_,rfl⟩,rfl,rfl⟩) ns [none] ⟨_,rfl⟩ (fun _ _=>trivial),show ns.filter (fun _=>false)=[] from List.filter_eq_nil_iff.mpr fun _ _=>by decide]
 rfl
theorem wholesN (c:List Nat)(h:c.length≤900):F_l_wholes [encN c]=some (.bool true):=by
 rw[encN_int]
 exact wholes_eq _ (by rw[List.length_map];exact h)
section
variable {m k:Int}{P:List (Int×Int)}{c:List Nat}{b:Option (List Nat)}
theorem lf_body {i:Nat}(hi:i<P.length)(hc:∀ o∈c,o<P.length)(hl:c.length≤900)(h0:c≠[])(x:Int) :
  L_l_far_1 [some (mD m P c k b),some (.int x),some (.int (i:Nat))]=some (.nx [some (mD m P c k b),some (.int (if mn P c i>x then mn P c i else x)),some (.int (i:Nat))]):=by
 show setO 1 _ ((consD (some (.int x)) (consD (((compO (setS 0) (fun _=>some true) E_l_far_0 ((dgetD "posts" (mD m P c k b)).bind listD) [none,some (mD m P c k b),some (.int (i:Nat))]).map PyData.list).bind minLD) (some []))).bind maxD)=_
 rw[g_posts]
 show setO 1 _ ((consD (some (.int x)) (consD (((compO (setS 0) (fun _=>some true) E_l_far_0 (some (c.map fun x:Nat=>PyData.int (x:Nat))) [none,some (mD m P c k b),some (.int (i:Nat))]).map PyData.list).bind minLD) (some []))).bind maxD)=_
 rw[compO_s (by rw[List.length_map];omega),compD_map (S:=setS 0) (fe:=E_l_far_0) (fun o:Nat=>PyData.int (o:Nat)) PyData.int (fun o=>wy P i o) (fun ρ=>∃ a,ρ=[a,some (mD m P c k b),some (.int (i:Nat))]) (fun o=>o<P.length) (fun o ρ hol ⟨a,e⟩=>⟨[some (.int (o:Nat)),some (mD m P c k b),some (.int (i:Nat))],by rw[e];rfl,⟨_,rfl⟩,lway_eq hi hol⟩) c [none,some (mD m P c k b),some (.int (i:Nat))] ⟨_,rfl⟩ hc]
 show setO 1 _ ((consD (some (.int x)) (consD (minLD (.list ((c.map fun o=>wy P i o).map .int))) (some []))).bind maxD)=_
 rw[mn_eq h0]
 rfl
theorem lfar_is (hP:P.length<900)(hc:∀ o∈c,o<P.length)(hl:c.length≤900)(h0:P≠[]->c≠[]){R:Int}(hR:Mx ((List.range P.length).map (mn P c)) R):F_l_far [mD m P c k b]=some (.int R):=by
 obtain⟨x,t,hx,h1⟩:=forD_rng (k:=2) (F:=L_l_far_1) (α:=Int) (fun i x=>Mx ((List.range i).map (mn P c)) x) (fun i x t=>[some (mD m P c k b),some (.int x),t 0]) P.length 0 (fun _=>none) ⟨Int.le_refl _,.inl rfl,fun _ z=>nomatch z⟩ fun i x t hi hx=>
  ⟨if mn P c i>x then mn P c i else x,fun _=>some (.int (i:Nat)),by
   rw[List.range_succ,List.map_append]
   have:=hx.nn
   refine⟨by split <;> omega,?_,fun y hy=>?_⟩
   ·by_cases g:mn P c i>x
    ·rw[if_pos g]
     exact .inr (List.mem_append_right _ (List.mem_singleton.mpr rfl))
    ·rw[if_neg g]
     exact hx.mem.imp id fun z=>List.mem_append_left _ z
   ·rcases List.mem_append.mp hy with z | z
    ·have:=hx.le _ z
     split <;> omega
    ·have:y=mn P c i:=List.mem_singleton.mp z
     split <;> omega,lf_body hi hc hl (h0 fun z=>by rw[z] at hi;exact absurd hi (Nat.not_lt_zero _)) x⟩
 rw[hx.uniq hR] at h1
 have q:B_l_far [some (mD m P c k b),none,none]=some (.rt (.int R)):=by
  unfold B_l_far
  rw[seqF_nx (ρ':=[some (mD m P c k b),some (.int 0),none]) rfl]
  rw[seqF_nx (ρ':=[some (mD m P c k b),some (.int R),t 0]) ?s1]
  case s1=>
   show forO _ L_l_far_1 ((consD ((consD (dgetD "folk" (mD m P c k b)) (some [])).bind lenD) (some [])).bind rng1D) _=_
   rw[g_folk]
   show forO _ L_l_far_1 (rng1D [.int ((P.map encP).length:Nat)]) _=_
   rw[List.length_map,rng1_ok (by omega) (by omega),Int.toNat_natCast]
   exact h1
  rfl
 show outD (B_l_far [some (mD m P c k b),none,none])=_
 rw[q]
 rfl
theorem so_loop (w d x4 x5 x6:Option PyData):∀ (n j:Nat),j+n=P.length->∀ (N:Nat),n<N->∀ x3,∃ y3,forL 2 (setS 3) L_l_is_so_0 N j [w,d,some (encL P),x3,x4,x5,x6]=some (.nx [w,d,some (encL P),y3,x4,x5,x6])
 | 0,j,hj,N+1,_,x3=>by
  refine⟨x3,?_⟩
  show (((P.map encP)[j]?).elim (some (Out.nx [w,d,some (encL P),x3,x4,x5,x6])) _)=_
  rw[List.getElem?_eq_none (by rw[List.length_map];omega)]
  rfl
 | n+1,j,hj,N+1,hN,x3=>by
  have hl:j<P.length:=by omega
  obtain⟨y3,h⟩:=so_loop w d x4 x5 x6 n (j+1) (by omega) N (by omega) (some (encP P[j]))
  refine⟨y3,?_⟩
  show (((P.map encP)[j]?).elim (some (Out.nx [w,d,some (encL P),x3,x4,x5,x6])) _)=_
  rw[List.getElem?_map,List.getElem?_eq_getElem hl]
  exact h
theorem so_eq (hP:P.length≤100)(hc:∀ o∈c,o<P.length)(hl:c.length≤100)(hb:∀ e,b=some e->e.length≤100)(h0:P≠[]->c≠[]):F_l_is_so [wD m P c k b,mD m P c k b]=some (.bool true):=by
 obtain⟨R,r1,r2⟩:=reach_eq (m:=m) (k:=k) (b:=b) (by omega) hc (by omega) h0
 have r3:=lfar_is (m:=m) (k:=k) (b:=b) (by omega) hc (by omega) h0 r2
 obtain⟨y3,h3⟩:=so_loop (P:=P) (some (wD m P c k b)) (some (mD m P c k b)) none none none P.length 0 (by omega) 1001 (by omega) none
 have q:B_l_is_so [some (wD m P c k b),some (mD m P c k b),none,none,none,none,none]=some (.rt (.bool true)):=by
  unfold B_l_is_so
  rw[seqF_nx (ρ':=[some (wD m P c k b),some (mD m P c k b),some (encL P),none,none,none,none]) ?s1]
  case s1=>
   rw[callM_is (m:=m) (k:=k) (P:=P) (c:=c) (b:=b) (ds:=[]) rfl rfl (by decide +kernel),folk_eq]
   rfl
  rw[seqF_nx (ρ':=[some (wD m P c k b),some (mD m P c k b),some (encL P),none,none,none,none]) ?s2]
  case s2=>
   show condO (orB ((testD (isD "list" (encL P))).map not) (orB (testD (bind2 (some (encL P)) (dgetD "folk" (mD m P c k b)) neD)) (testD (bind2 (fldD "Watch" "many" (wD m P c k b)) (dgetD "many" (mD m P c k b)) neD)))) _ _=_
   rw[g_folk,f_many,g_many,bind2_ss,bind2_ss,neD_P,neD_i]
   rfl
  rw[seqF_nx (ρ':=[some (wD m P c k b),some (mD m P c k b),some (encL P),y3,none,none,none]) h3]
  rw[seqF_nx (ρ':=[some (wD m P c k b),some (mD m P c k b),some (encL P),y3,some (.list [encN c,encB b]),none,none]) ?s4]
  case s4=>
   rw[callM_is (m:=m) (k:=k) (P:=P) (c:=c) (b:=b) (ds:=[]) rfl rfl (by decide +kernel),posts_eq,callM_is (m:=m) (k:=k) (P:=P) (c:=c) (b:=b) (ds:=[]) rfl rfl (by decide +kernel),bar_eq]
   rfl
  rw[seqF_nx (ρ':=[some (wD m P c k b),some (mD m P c k b),some (encL P),y3,some (.list [encN c,encB b]),none,none]) ?s5]
  case s5=>
   show condO (orB ((testD (F_l_wholes [encN c])).map not) (testD (bind2 (some (.list [encN c,encB b])) ((shortL (consD (dgetD "posts" (mD m P c k b)) (consD (dgetD "bar" (mD m P c k b)) (some [])))).map .list) neD))) _ _=_
   rw[wholesN c (by omega),g_posts,g_bar]
   show condO (orB (some false) (testD (neD (.list [encN c,encB b]) (.list [encN c,encB b])))) _ _=_
   rw[neD_told]
   rfl
  rw[seqF_nx (ρ':=[some (wD m P c k b),some (mD m P c k b),some (encL P),y3,some (.list [encN c,encB b]),none,none]) ?s6]
  case s6=>
   cases b with
   | none=>rfl
   | some e=>
    show condO (andB (some true) ((testD (F_l_wholes [encN e])).map not)) _ _=_
    rw[wholesN e (by have:=hb e rfl;omega)]
    rfl
  rw[seqF_nx (ρ':=[some (wD m P c k b),some (mD m P c k b),none,y3,none,none,none]) ?s7]
  case s7=>
   have g:(decide ([encN c,encB b].length≤100)&&decide ((P.map encP).length≤100)&&decide (5<[some (wD m P c k b),some (mD m P c k b),some (encL P),y3,some (.list [encN c,encB b]),none,none].length)&&[encN c,encB b].all (fun d=>match d with | .list l=>decide (l.length≤100) | .none=>true | _=>false))=true:=by
    have e1:decide ((c.map fun x:Nat=>PyData.int (x:Nat)).length≤100)=true:=decide_eq_true (by rw[List.length_map];exact hl)
    rw[decide_eq_true (by rw[List.length_map];exact hP:(P.map encP).length≤100)]
    show (decide ((c.map fun x:Nat=>PyData.int (x:Nat)).length≤100)&&([encB b].all _))=true
    rw[e1]
    cases b with
    | none=>rfl
    | some e=>
     show (decide ((e.map fun x:Nat=>PyData.int (x:Nat)).length≤100)&&true)=true
     rw[decide_eq_true (by rw[List.length_map];exact hb e rfl)]
     rfl
   show (if _=true then some (Out.nx [some (wD m P c k b),some (mD m P c k b),none,y3,none,none,none]) else none)=_
   exact if_pos g
  rw[seqF_nx (ρ':=[some (wD m P c k b),some (mD m P c k b),none,y3,none,none,some (.list [.int k,.int R])]) ?s8]
  case s8=>
   rw[callM_is (m:=m) (k:=k) (P:=P) (c:=c) (b:=b) (ds:=[]) rfl rfl (by decide +kernel),mark_eq,callM_is (m:=m) (k:=k) (P:=P) (c:=c) (b:=b) (ds:=[]) rfl rfl (by decide +kernel),r1]
   rfl
  show (andV (F_l_wholes [.list ([k,R].map .int)]) (bind2 (some (.list ([k,R].map .int))) ((shortL (consD (dgetD "mark" (mD m P c k b)) (consD (F_l_far [mD m P c k b]) (some [])))).map .list) eqD)).map Out.rt=_
  rw[wholes_eq [k,R] (show 2≤900 by decide),r3,g_mark]
  show (andV (some (.bool true)) (eqD (.list ([k,R].map .int)) (.list ([k,R].map .int)))).map Out.rt=_
  rw[eqD_ints,decide_eq_true rfl]
  rfl
 show outD (B_l_is_so [some (wD m P c k b),some (mD m P c k b),none,none,none,none,none])=_
 rw[q]
 rfl
end
theorem which_many:F_l_which [excD "NoMany" []]=some (.int 0):=by kernel_rfl
theorem refused_eq {m:Int}(h:m<1):F_l_refused [.int m]=some (.bool true):=by
 have q:B_l_refused [some (.int m),none,none]=some (.rt (.bool true)):=by
  unfold B_l_refused
  rw[seqF_nx (ρ':=[some (.int m),some .none,none]) rfl]
  rw[seqF_nx (ρ':=[some (.int m),some (excD "NoMany" []),none]) ?a1]
  case a1=>
   have e:FN_w_xinit [.int m]=some (.ex (excD "NoMany" [])):=by
    have e0:B_w_xinit [none,some (.int m)]=some (.ex (excD "NoMany" [])):=by
     show (((FX_p_check_many [.int m]).map (kRX [none,some (.int m)])).bind _)=_
     rw[ck_x,if_pos h]
     rfl
    show (B_w_xinit [none,some (.int m)]).bind _=_
    rw[e0]
    rfl
   show tryF 2 exNames H_l_refused_0 (dropX _ ((FN_w_xinit [.int m]).map _))=_
   rw[e]
   show tryF 2 exNames H_l_refused_0 (some (.ex (excD "NoMany" []) [some (.int m),some .none,none]))=_
   rw[tryF_ex (ρ':=[some (.int m),some (excD "NoMany" []),some (excD "NoMany" [])]) (by decide +kernel) rfl]
   rfl
  show (bind2 (F_l_which [excD "NoMany" []]) (some (.int 0)) eqD).map Out.rt=_
  rw[which_many]
  rfl
 show outD (B_l_refused [some (.int m),none,none])=_
 rw[q]
 rfl
structure WSt where
 m:Int
 P:List (Int×Int)
 c:List Nat
 k:Int
 b:Option (List Nat)
def WSt.w (s:WSt):PyData:=wD s.m s.P s.c s.k s.b
def WSt.d (s:WSt):PyData:=mD s.m s.P s.c s.k s.b
structure Ok5 (s:WSt)(n:Nat):Prop where
 wi:Wi s.m s.P s.c s.k s.b
 m1:1≤s.m
 m6:s.m≤6∨1000≤s.m
 cl:s.c.length≤s.P.length
 bl:∀ e,s.b=some e->e.length≤s.P.length
 pl:s.P.length≤n
theorem Ok5.more {s:WSt}{n:Nat}(h:Ok5 s n):Ok5 s (n+1):=⟨h.wi,h.m1,h.m6,h.cl,h.bl,Nat.le_succ_of_le h.pl⟩
theorem ok5_nil {m:Int}(h1:1≤m)(h6:m≤6∨1000≤m):Ok5 ⟨m,[],[],0,none⟩ 0:=⟨Wi.nil (show (0:Int)≤m by omega),h1,h6,Nat.le_refl _,fun _ z=>(nomatch z),Nat.le_refl _⟩
theorem so5 {s:WSt}{n:Nat}(h:Ok5 s n)(hn:n≤100):F_l_is_so [s.w,s.d]=some (.bool true):=by
 have h1:=h.cl
 have h2:=h.pl
 refine so_eq (by omega) h.wi.lt (by omega) (fun e z=>by have:=h.bl e z;omega) fun z y=>?_
 cases hP:s.P with
 | nil=>exact z hP
 | cons p r=>
  obtain⟨o,h3,_⟩:=h.wi.cov 0 (by rw[hP,List.length_cons];omega)
  rw[y] at h3
  exact nomatch h3
theorem step5 {s:WSt}{n:Nat}(h:Ok5 s n)(hn:n<100)(q:Int×Int):∃ s':WSt,Ok5 s' (n+1)∧FR_w_come [s.w,.int q.1,.int q.2]=some (.int (s.P.length:Nat),s'.w)∧FR_l_come [s.d,encP q]=some (.int (s.P.length:Nat),s'.d):=by
 have h1:=h.cl
 have h2:=h.pl
 have L1:(s.P++[q]).length=s.P.length+1:=by rw[List.length_append,List.length_singleton]
 generalize es:stepW s.m (s.P++[q]) s.P.length s.c s.k s.b=t
 obtain⟨a1,a2,a3⟩:=come_ok h.wi h.m1 h.m6 h.cl (by omega) q es
 have a4:=lcome_ok h.wi h.m1 h.m6 h.cl (by omega) q es
 refine⟨⟨s.m,s.P++[q],t.1,t.2.1,t.2.2⟩,⟨a1,h.m1,h.m6,by show t.1.length≤(s.P++[q]).length;omega,fun e z=>?_,by show (s.P++[q]).length≤_;omega⟩,a3,a4⟩
 show e.length≤(s.P++[q]).length
 have z:t.2.2=some e:=z
 subst es
 unfold stepW at z
 split at z
 ·have:=h.bl e z
  omega
 ·have z:=Option.some.inj z
  rw[← z]
  unfold addW
  split
  ·rw[List.length_append,List.length_singleton];omega
  ·omega
theorem ixN_nat {n j:Nat}(h:j<n):ixN n (j:Nat)=some j:=by
 unfold ixN
 rw[if_pos (by omega),if_pos (by omega)]
 rfl
theorem setMix_is {f:WSt->PyData}{fb:Rho->Option PyData}{F:List PyData->Option (PyData×PyData)}{fs:Rho->Option (List PyData)}{ρ:Rho}{S:List WSt}{j:Nat}{s s':WSt}{ds fd:List PyData}{r:PyData}{n i:Nat}(h1:(ρ[i]?).join=some (.list (S.map f)))(h2:fb ρ=some (.int (j:Nat)))(hj:S[j]?=some s)(h3:fdsD (f s)=some fd)(h4:fs ρ=some ds)(h5:F (f s::ds)=some (r,f s')) :
  setMix n i fb F fs ρ=some (.nx ((ρ.set i (some (.list ((S.set j s').map f)))).set n (some r))):=by
 have hl:j<(S.map f).length:=by
  rw[List.length_map]
  exact (List.getElem?_eq_some_iff.mp hj).1
 unfold setMix
 rw[h1,Option.bind_some,show isL (.list (S.map f))=some (S.map f) from rfl,Option.bind_some,h2,Option.bind_some,show intO (.int (j:Nat))=some ((j:Nat):Int) from rfl,Option.bind_some,ixN_nat hl,Option.bind_some,List.getElem?_map,hj,Option.map_some,Option.bind_some,h3,Option.bind_some,h4,Option.bind_some,h5,Option.map_some,List.map_set]
theorem callDix_is {f:WSt->PyData}{fb:Rho->Option PyData}{F:List PyData->Option (PyData×PyData)}{fs:Rho->Option (List PyData)}{ρ:Rho}{S:List WSt}{j:Nat}{s s':WSt}{ds fd:List PyData}{r:PyData}{i:Nat}(h1:(ρ[i]?).join=some (.list (S.map f)))(h2:fb ρ=some (.int (j:Nat)))(hj:S[j]?=some s)(h3:dkD (f s)=some fd)(h4:fs ρ=some ds)(h5:F (f s::ds)=some (r,f s')) :
  callDix i fb F fs ρ=some (r,ρ.set i (some (.list ((S.set j s').map f)))):=by
 have hl:j<(S.map f).length:=by
  rw[List.length_map]
  exact (List.getElem?_eq_some_iff.mp hj).1
 unfold callDix
 rw[h1,Option.bind_some,show isL (.list (S.map f))=some (S.map f) from rfl,Option.bind_some,h2,Option.bind_some,show intO (.int (j:Nat))=some ((j:Nat):Int) from rfl,Option.bind_some,ixN_nat hl,Option.bind_some,List.getElem?_map,hj,Option.map_some,Option.bind_some,h3,Option.bind_some,h4,Option.bind_some,h5,Option.map_some,List.map_set]
theorem ix_S {f:WSt->PyData}{S:List WSt}{j:Nat}{s:WSt}(hj:S[j]?=some s):ixD (.list (S.map f)) (.int (j:Nat))=some (f s):=atI_nat (by rw[List.getElem?_map,hj];rfl)
def Ok2 (S:List WSt)(n:Nat):Prop:=S.length=2∧∀ s∈S,Ok5 s n
theorem l1_step {ps:List Int}(hp:3≤ps.length)(hd:dgOk ps){S:List WSt}{n:Nat}(hS:Ok2 S n)(hn:n<100)(x0 x4 x5 x6 x7 x8 x9:Option PyData):∃ (S':List WSt) (y4 y8 y9:Option PyData),Ok2 S' (n+1) ∧
  L_law_1 [x0,some (.list (ps.map .int)),some (.list (S.map WSt.w)),some (.list (S.map WSt.d)),x4,x5,x6,x7,x8,x9]=some (.nx [x0,some (.list (ps.dropLast.dropLast.dropLast.map .int)),some (.list (S'.map WSt.w)),some (.list (S'.map WSt.d)),y4,x5,x6,x7,y8,y9]):=by
 obtain⟨k,hk⟩:∃ k,ps.length=k+3:=⟨ps.length - 3,by omega⟩
 obtain⟨n1,l1⟩:=drop_ne (k:=k+2) hk
 obtain⟨q,eq⟩:=place_eq (ps:=ps.dropLast) (by omega) (dg_drop hd)
 obtain⟨j,hj,ej⟩:∃ j:Nat,j<2∧intB (.bool (ps.getLast n1 % 3==0))=some (.int (j:Nat)):=by
  cases ps.getLast n1 % 3==0 with
  | false=>exact⟨0,by omega,rfl⟩
  | true=>exact⟨1,by omega,rfl⟩
 obtain⟨s,hs⟩:∃ s,S[j]?=some s:=⟨_,List.getElem?_eq_getElem (by rw[hS.1];exact hj)⟩
 have hsm:s∈S:=List.mem_of_getElem? hs
 obtain⟨s',h1,h2,h3⟩:=step5 (hS.2 s hsm) hn q
 refine⟨S.set j s',some (.int (j:Nat)),some (encP q),some (.int (s.P.length:Nat)),⟨by rw[List.length_set];exact hS.1,fun t ht=>?_⟩,?_⟩
 ·rcases List.mem_or_eq_of_mem_set ht with z | z
  ·exact (hS.2 t z).more
  ·rw[z];exact h1
 have hs2:(S.set j s')[j]?=some s':=by rw[List.getElem?_set_self (by rw[hS.1];exact hj)]
 unfold L_law_1
 rw[seqF_nx (ρ':=[x0,some (.list (ps.dropLast.map .int)),some (.list (S.map WSt.w)),some (.list (S.map WSt.d)),some (.int (j:Nat)),x5,x6,x7,x8,x9]) ?a1]
 case a1=>
  have e1:intX (opL eqD (opL modD (popD 1) (fun ρ=>some (.int 3))) (fun ρ=>some (.int 0))) [x0,some (.list (ps.map .int)),some (.list (S.map WSt.w)),some (.list (S.map WSt.d)),x4,x5,x6,x7,x8,x9]=some (.int (j:Nat),[x0,some (.list (ps.dropLast.map .int)),some (.list (S.map WSt.w)),some (.list (S.map WSt.d)),x4,x5,x6,x7,x8,x9]):=by
   show (((opL modD (popD 1) (fun ρ=>some (.int 3)) [x0,some (.list (ps.map .int)),some (.list (S.map WSt.w)),some (.list (S.map WSt.d)),x4,x5,x6,x7,x8,x9]).bind fun r=>(eqD r.1 (.int 0)).map fun d=>(d,r.2)).bind fun r=>(intB r.1).map fun d=>(d,r.2))=_
   rw[show opL modD (popD 1) (fun ρ=>some (.int 3)) [x0,some (.list (ps.map .int)),some (.list (S.map WSt.w)),some (.list (S.map WSt.d)),x4,x5,x6,x7,x8,x9]=some (.int (ps.getLast n1 % 3),[x0,some (.list (ps.dropLast.map .int)),some (.list (S.map WSt.w)),some (.list (S.map WSt.d)),x4,x5,x6,x7,x8,x9]) from pop_mod n1 (by decide) rfl rfl,Option.bind_some,eqD_int,Option.map_some,Option.bind_some,ej]
   rfl
  rw[e1]
  rfl
 rw[seqF_nx (ρ':=[x0,some (.list (ps.dropLast.dropLast.dropLast.map .int)),some (.list (S.map WSt.w)),some (.list (S.map WSt.d)),some (.int (j:Nat)),x5,x6,x7,some (encP q),x9]) ?a2]
 case a2=>
  show setEff 8 ((FI_l_place [.list (ps.dropLast.map .int)]).map fun z=>(z.1,[x0,some (.list z.2),some (.list (S.map WSt.w)),some (.list (S.map WSt.d)),some (.int (j:Nat)),x5,x6,x7,x8,x9]))=_
  rw[eq]
  rfl
 rw[seqF_nx (ρ':=[x0,some (.list (ps.dropLast.dropLast.dropLast.map .int)),some (.list ((S.set j s').map WSt.w)),some (.list (S.map WSt.d)),some (.int (j:Nat)),x5,x6,x7,some (encP q),some (.int (s.P.length:Nat))]) ?a3]
 case a3=>exact setMix_is (f:=WSt.w) (s':=s') rfl rfl hs (fds_w (m:=s.m)) rfl h2
 rw[seqF_nx (ρ':=[x0,some (.list (ps.dropLast.dropLast.dropLast.map .int)),some (.list ((S.set j s').map WSt.w)),some (.list ((S.set j s').map WSt.d)),some (.int (j:Nat)),x5,x6,x7,some (encP q),some (.int (s.P.length:Nat))]) ?a4]
 case a4=>
  have e2:callDix 3 (fun ρ=>(ρ[4]?).join) FR_l_come (fun ρ=>consD ((ρ[8]?).join) (some [])) [x0,some (.list (ps.dropLast.dropLast.dropLast.map .int)),some (.list ((S.set j s').map WSt.w)),some (.list (S.map WSt.d)),some (.int (j:Nat)),x5,x6,x7,some (encP q),some (.int (s.P.length:Nat))]=some (.int (s.P.length:Nat),[x0,some (.list (ps.dropLast.dropLast.dropLast.map .int)),some (.list ((S.set j s').map WSt.w)),some (.list ((S.set j s').map WSt.d)),some (.int (j:Nat)),x5,x6,x7,some (encP q),some (.int (s.P.length:Nat))]):=callDix_is (f:=WSt.d) (s':=s') rfl rfl hs (show dkD s.d=some _ from rfl) rfl h3
  show ifX (testX ((callDix 3 (fun ρ=>(ρ[4]?).join) FR_l_come (fun ρ=>consD ((ρ[8]?).join) (some [])) [x0,some (.list (ps.dropLast.dropLast.dropLast.map .int)),some (.list ((S.set j s').map WSt.w)),some (.list (S.map WSt.d)),some (.int (j:Nat)),x5,x6,x7,some (encP q),some (.int (s.P.length:Nat))]).bind fun r=>(neD (.int (s.P.length:Nat)) r.1).map fun e=>(e,r.2))) _ _=_
  rw[e2,Option.bind_some,neD_i]
  rfl
 show condO ((testD ((consD (bind2 (some (.list ((S.set j s').map WSt.w))) (some (.int (j:Nat))) ixD) (consD (bind2 (some (.list ((S.set j s').map WSt.d))) (some (.int (j:Nat))) ixD) (some []))).bind F_l_is_so)).map not) _ _=_
 rw[bind2_ss,bind2_ss,ix_S hs2,ix_S hs2]
 show condO ((testD (F_l_is_so [s'.w,s'.d])).map not) _ _=_
 rw[so5 h1 (by omega)]
 rfl
theorem l0_step {ps:List Int}(hp:ps≠[])(hd:dgOk ps){S:List WSt}(hS:S.length<2)(h5:∀ s∈S,Ok5 s 0)(x0 x4 x5 x6 x7 x8 x9:Option PyData):∃ (s:WSt) (y5 y6:Option PyData),Ok5 s 0 ∧
  L_law_0 [x0,some (.list (ps.map .int)),some (.list (S.map WSt.w)),some (.list (S.map WSt.d)),x4,x5,x6,x7,x8,x9]=some (.nx [x0,some (.list (ps.dropLast.map .int)),some (.list ((S++[s]).map WSt.w)),some (.list ((S++[s]).map WSt.d)),x4,y5,y6,x7,x8,x9]):=by
 obtain⟨d1,d2⟩:=dg_last hp hd
 generalize e1:ps.getLast hp=d at d1 d2
 obtain⟨b,eb⟩:∃ b:Bool,eqD (.int (d % 8)) (.int 7)=some (.bool b):=⟨_,eqD_int _ _⟩
 obtain⟨mm,hm,em⟩:∃ mm∈[1+d / 8 % 5,10 ^ 29+d],ixD (.list [.int (1+d / 8 % 5),.int (10 ^ 29+d)]) (.int (if b=true then 1 else 0))=some (.int mm):=pick [1+d / 8 % 5,10 ^ 29+d] (by split <;> decide) (by split <;> (show _<(2:Int);decide))
 have hm1:1≤mm∧(mm≤6∨1000≤mm):=by
  rcases List.mem_cons.mp hm with z | z
  ·omega
  ·have:=List.mem_singleton.mp z
   omega
 refine⟨⟨mm,[],[],0,none⟩,some (.int d),some (.int mm),ok5_nil hm1.1 hm1.2,?_⟩
 have ap:∀ (f:WSt->PyData) (s:WSt),(S.map f).length<1000:=fun f s=>by rw[List.length_map];omega
 unfold L_law_0
 rw[seqF_nx (ρ':=[x0,some (.list (ps.dropLast.map .int)),some (.list (S.map WSt.w)),some (.list (S.map WSt.d)),x4,some (.int d),x6,x7,x8,x9]) ?a1]
 case a1=>
  rw[pop_i hp rfl,e1]
  rfl
 rw[seqF_nx (ρ':=[x0,some (.list (ps.dropLast.map .int)),some (.list (S.map WSt.w)),some (.list (S.map WSt.d)),x4,some (.int d),some (.int mm),x7,x8,x9]) ?a2]
 case a2=>
  show setO 6 _ (Option.filter lf (bind2 ((shortL (consD (bind2 (some (.int 1)) (bind2 (fdivD (.int d) (.int 8)) (some (.int 5)) modD) addD) (consD (bind2 (powD (.int 10) (.int 29)) (some (.int d)) addD) (some [])))).map .list) ((consD (bind2 (modD (.int d) (.int 8)) (some (.int 7)) eqD) (some [])).bind intD) ixD))=_
  rw[fdivD_ok (by decide) rfl,bind2_ss,modD_ok (by decide),modD_ok (by decide),bind2_ss (x:=.int (d % 8)),eb,show powD (.int 10) (.int 29)=some (.int (10 ^ 29)) from rfl,bind2_ss,bind2_ss,addD_ok,addD_ok]
  show setO 6 _ (Option.filter lf (ixD (.list [.int (1+d / 8 % 5),.int (10 ^ 29+d)]) (.int (if b=true then 1 else 0))))=_
  rw[em]
  rfl
 rw[seqF_nx (ρ':=[x0,some (.list (ps.dropLast.map .int)),some (.list ((S++[(⟨mm,[],[],0,none⟩:WSt)]).map WSt.w)),some (.list (S.map WSt.d)),x4,some (.int d),some (.int mm),x7,x8,x9]) ?a3]
 case a3=>
  show (newW "Watch" FR_w_init (some [.int mm])).bind _=_
  rw[init_eq hm1.1,Option.bind_some]
  show (if decide ((S.map WSt.w).length<1000)=true then some (Out.nx [x0,some (.list (ps.dropLast.map .int)),some (.list (S.map WSt.w++[wD mm [] [] 0 none])),some (.list (S.map WSt.d)),x4,some (.int d),some (.int mm),x7,x8,x9]) else none)=_
  rw[if_pos (decide_eq_true (ap WSt.w ⟨mm,[],[],0,none⟩)),List.map_append]
  rfl
 show (if decide ((S.map WSt.d).length<1000)=true then some (Out.nx [x0,some (.list (ps.dropLast.map .int)),some (.list ((S++[(⟨mm,[],[],0,none⟩:WSt)]).map WSt.w)),some (.list (S.map WSt.d++[mD mm [] [] 0 none])),x4,some (.int d),some (.int mm),x7,x8,x9]) else none)=_
 rw[if_pos (decide_eq_true (ap WSt.d ⟨mm,[],[],0,none⟩)),List.map_append (f:=WSt.d)]
 rfl
theorem l2_step {S:List WSt}{n:Nat}(hS:Ok2 S n)(hn:n≤100){j:Nat}(hj:j<2)(x0 x1 x5 x6 x7 x8 x9:Option PyData) :
  L_law_2 [x0,x1,some (.list (S.map WSt.w)),some (.list (S.map WSt.d)),some (.int (j:Nat)),x5,x6,x7,x8,x9]=some (.nx [x0,x1,some (.list (S.map WSt.w)),some (.list (S.map WSt.d)),some (.int (j:Nat)),x5,x6,x7,x8,x9]):=by
 obtain⟨s,hs⟩:∃ s,S[j]?=some s:=⟨_,List.getElem?_eq_getElem (by rw[hS.1];exact hj)⟩
 unfold L_law_2
 show condO (orB ((testD ((consD (bind2 (some (.list (S.map WSt.w))) (some (.int (j:Nat))) ixD) (consD (bind2 (some (.list (S.map WSt.d))) (some (.int (j:Nat))) ixD) (some []))).bind F_l_is_so)).map not) ((testD ((consD (bind2 (some (.list (S.map WSt.w))) (some (.int (j:Nat))) ixD) (consD (bind2 (some (.list (S.map WSt.d))) (some (.int (j:Nat))) ixD) (some []))).bind F_l_is_so)).map not)) _ _=_
 rw[bind2_ss,bind2_ss,ix_S hs,ix_S hs]
 show condO (orB ((testD (F_l_is_so [s.w,s.d])).map not) ((testD (F_l_is_so [s.w,s.d])).map not)) _ _=_
 rw[so5 (hS.2 s (List.mem_of_getElem? hs)) hn]
 rfl
theorem main (ns:List Int)(hl:ns.length≤63):F_law [.list (ns.map .int)]=some (.bool true):=by
 obtain⟨ds,dl,dk,ed⟩:=digits_eq ns 0 hl (by omega)
 obtain⟨⟨S0,p0⟩,t0,⟨s1,s2,s3,s4⟩,h0⟩:=forD_rng (k:=4) (F:=L_law_0) (α:=List WSt×List Int) (fun i x=>x.1.length=i∧(∀ s∈x.1,Ok5 s 0)∧x.2.length+i=120∧dgOk x.2) (fun _ x t=>[some (.list (ns.map .int)),some (.list (x.2.map .int)),some (.list (x.1.map WSt.w)),some (.list (x.1.map WSt.d)),t 0,t 1,t 2,none,none,none]) 2 ([],ds) (fun _=>none) ⟨rfl,fun _ z=>(nomatch z),by rw[dl],dk⟩ fun i x t hi h=>by
  obtain⟨h1,h2,h3,h4⟩:=h
  have hp:x.2≠[]:=List.ne_nil_of_length_pos (by omega)
  obtain⟨s,y5,y6,g1,g2⟩:=l0_step hp h4 (S:=x.1) (by omega) h2 (some (.list (ns.map .int))) (some (.int (i:Nat))) (t 1) (t 2) none none none
  refine⟨(x.1++[s],x.2.dropLast),fun j=>[some (PyData.int (i:Nat)),y5,y6].getD j none,⟨?_,?_,?_,dg_drop h4⟩,g2⟩
  ·show (x.1++[s]).length=i+1
   rw[List.length_append,List.length_singleton,h1]
  ·intro z hz
   rcases List.mem_append.mp hz with y | y
   ·exact h2 z y
   ·rw[List.mem_singleton.mp y];exact g1
  ·show x.2.dropLast.length+(i+1)=120
   rw[List.length_dropLast]
   omega
 dsimp only at s1 s2 s3 s4 h0
 have hp0:p0≠[]:=List.ne_nil_of_length_pos (by omega)
 obtain⟨N,hN,eN⟩:∃ N:Nat,N<37∧p0.getLast hp0 % 37=(N:Nat):=⟨(p0.getLast hp0 % 37).toNat,by omega,by omega⟩
 obtain⟨⟨S1,p1⟩,t1,⟨u1,_,_⟩,h1⟩:=forD_rng (k:=7) (F:=L_law_1) (α:=List WSt×List Int) (fun i x=>Ok2 x.1 i∧x.2.length+3*i=117∧dgOk x.2) (fun _ x t=>[some (.list (ns.map .int)),some (.list (x.2.map .int)),some (.list (x.1.map WSt.w)),some (.list (x.1.map WSt.d)),t 0,t0 1,t0 2,t 1,t 2,t 3]) N (S0,p0.dropLast) (fun j=>[t0 0,none,none,none].getD j none) ⟨⟨s1,s2⟩,by rw[List.length_dropLast];omega,dg_drop s4⟩ fun i x t hi h=>by
  obtain⟨h1,h2,h3⟩:=h
  obtain⟨S',y4,y8,y9,g1,g2⟩:=l1_step (ps:=x.2) (by omega) h3 h1 (by omega) (some (.list (ns.map .int))) (t 0) (t0 1) (t0 2) (some (.int (i:Nat))) (t 2) (t 3)
  refine⟨(S',x.2.dropLast.dropLast.dropLast),fun j=>[y4,some (PyData.int (i:Nat)),y8,y9].getD j none,⟨g1,?_,dg_drop (dg_drop (dg_drop h3))⟩,g2⟩
  show x.2.dropLast.dropLast.dropLast.length+3*(i+1)=117
  rw[List.length_dropLast,List.length_dropLast,List.length_dropLast]
  omega
 dsimp only at u1 h1
 obtain⟨_,t2,_,h2⟩:=forD_rng (k:=4) (F:=L_law_2) (α:=Unit) (fun _ _=>True) (fun _ _ t=>[some (.list (ns.map .int)),some (.list (p1.map .int)),some (.list (S1.map WSt.w)),some (.list (S1.map WSt.d)),t 0,t0 1,t0 2,t1 1,t1 2,t1 3]) 2 () (fun _=>t1 0) trivial fun i x t hi _=>⟨(),fun _=>some (.int (i:Nat)),trivial,l2_step u1 (by omega) hi _ _ _ _ _ _ _⟩
 have q:B_law [some (.list (ns.map .int)),none,none,none,none,none,none,none,none,none]=some (.rt (.bool true)):=by
  unfold B_law
  rw[seqF_nx (ρ':=[some (.list (ns.map .int)),some (.list (ds.map .int)),none,none,none,none,none,none,none,none]) ?a1]
  case a1=>
   show setO 1 _ (F_l_digits [.list (ns.map .int),.int ((0:Nat):Int),.int 2])=_
   rw[ed]
   rfl
  rw[seqF_nx (ρ':=[some (.list (ns.map .int)),some (.list (ds.map .int)),some (.list []),none,none,none,none,none,none,none]) rfl]
  rw[seqF_nx (ρ':=[some (.list (ns.map .int)),some (.list (ds.map .int)),some (.list []),some (.list []),none,none,none,none,none,none]) rfl]
  rw[seqF_nx (ρ':=[some (.list (ns.map .int)),some (.list (p0.map .int)),some (.list (S0.map WSt.w)),some (.list (S0.map WSt.d)),t0 0,t0 1,t0 2,none,none,none]) ?a4]
  case a4=>exact h0
  rw[seqF_nx (ρ':=[some (.list (ns.map .int)),some (.list (p1.map .int)),some (.list (S1.map WSt.w)),some (.list (S1.map WSt.d)),t1 0,t0 1,t0 2,t1 1,t1 2,t1 3]) ?a5]
  case a5=>
   rw[pop_mod (i:=1) (ps:=p0) hp0 (m:=37) (by decide) rfl rfl,eN]
   show (rng1D [.int (N:Nat)]).bind _=_
   rw[rng1_ok (by omega) (by omega),Int.toNat_natCast]
   exact h1
  rw[seqF_nx (ρ':=[some (.list (ns.map .int)),some (.list (p1.map .int)),some (.list (S1.map WSt.w)),some (.list (S1.map WSt.d)),t2 0,t0 1,t0 2,t1 1,t1 2,t1 3]) ?a6]
  case a6=>exact h2
  show (andV (F_l_refused [.int 0]) (andV (F_l_refused [.int (-1)]) (F_l_refused [.int (-(10 ^ 29))]))).map Out.rt=_
  rw[refused_eq (by omega),refused_eq (by omega),refused_eq (by omega)]
  rfl
 show outD (B_law [some (.list (ns.map .int)),none,none,none,none,none,none,none,none,none])=_
 rw[q]
 rfl
end NW
namespace NW
open L2
structure Txt (mg:Str->Option Value):Prop where
 m_ValueError:mg "ValueError"=none
 m_abs:mg "abs"=none
 m_all:mg "all"=none
 m_bool:mg "bool"=none
 m_enumerate:mg "enumerate"=none
 m_int:mg "int"=none
 m_isinstance:mg "isinstance"=none
 m_len:mg "len"=none
 m_list:mg "list"=none
 m_max:mg "max"=none
 m_min:mg "min"=none
 m_range:mg "range"=none
 m_reversed:mg "reversed"=none
 m_sum:mg "sum"=none
 m_tuple:mg "tuple"=none
section
variable {P:Program}{w:World}{K:PySem.W.Frag}{mg:Str->Option Value}{base:Heap}
theorem sc_l_digits:FnScope ["_law_script","_law_at","_law_parts","_law_unit","_law_found","_law_first","_law_rest","_law_k"] ["_law_script","_law_at","_law_parts"] (defScope s_l_digits):=⟨rfl,rfl,rfl,by decide +kernel,rfl,by decide +kernel,by decide +kernel⟩
theorem nd_l_digits_0:(["_law_k","_law_script"]:List Str).Nodup:=by decide +kernel
theorem ok_l_digits {f:Addr}{fd:FuncData}(F:Fun K "_law_digits" ("_law_digits") s_l_digits f fd)(T:Txt mg) :FnOk P w K mg base CX0 1 f fd ["_law_script","_law_at","_law_parts"] (spR K (.lst .cl) F_l_digits):=
 fn_auto (k:=0) ⟨[(4,.lst .cl)],.lst .cl⟩ F sc_l_digits (by decide) B_l_digits (fun cdv hk A outer s H E hr=>ss_cons (@s_set _ _ _ _ _ _ 3 _ _ sc_l_digits.nd rfl (Or.inl rfl) (v_sum rfl rfl T.m_sum (PFr.r (fr_comp (k:=1) (N:=["_law_k","_law_script"]) (ix:=[0])  (defScope s_l_digits) rfl ⟨rfl,rfl,by decide +kernel,by decide +kernel,by decide +kernel,rfl,by decide +kernel,rfl⟩ rfl rfl (PIv.raw (iv_rng3 rfl T.m_range (a_cons (PV.r (pv_name (pv 1))) (a_cons (PV.r (v_callB (b_min rfl) rfl T.m_min bt_min (a_cons (PV.r (v_callB (b_len) rfl T.m_len bt_len (a_cons (PV.r (pv_name (pv 0))) (a_nil)))) (a_cons (PV.r (pv_int)) (a_nil))))) (a_cons (PV.r (pv_name (pv 2))) (a_nil)))))) (fun _ _ _ _ _ _=>g_name (i:=0) nd_l_digits_0 rfl (Or.inl rfl)) (fun _ _ _ _ _ _=>if_nil) (fun _ _ _ _ _ _=>r_ix (PV.r (pv_name (pv 1))) (PV.r (pv_name (pv 0))))))) rfl rfl (by first | exact .inl rfl | exact .inr rfl | assumption)) (ss_cons (s_setO (i:=4) sc_l_digits.nd rfl (Or.inl rfl) (fc_lst (ac_nil))) (ss_cons (@s_set _ _ _ _ _ _ 5 _ _ sc_l_digits.nd rfl (Or.inl rfl) (v_mod (PV.r (v_add (PV.r (v_mul (PV.r (pv_name (pv 3))) (PV.r (pv_int)))) (PV.r (pv_int)))) (PV.r (pv_int))) rfl rfl (by first | exact .inl rfl | exact .inr rfl | assumption)) (ss_cons (@s_set _ _ _ _ _ _ 6 _ _ sc_l_digits.nd rfl (Or.inl rfl) (v_mul (PV.r (pv_name (pv 3))) (PV.r (v_callT (b_int) rfl T.m_int bt_int (a_cons (PV.r (v_cmp c_ge (PV.r (pv_name (pv 3))) (PV.r (v_pow (PV.r (pv_int)) (PV.r (pv_int)))))) (a_nil))))) rfl rfl (by first | exact .inl rfl | exact .inr rfl | assumption)) (ss_cons (s_for rfl (iv_rng1 rfl T.m_range (a_cons (PV.r (pv_int)) (a_nil))) (g_name (i:=7) sc_l_digits.nd rfl (Or.inl rfl)) (ss_cons (@s_set _ _ _ _ _ _ 5 _ _ sc_l_digits.nd rfl (Or.inl rfl) (v_mod (PV.r (v_add (PV.r (v_add (PV.r (v_mul (PV.r (pv_name (pv 5))) (PV.r (pv_name (pv 5))))) (PV.r (pv_name (pv 3))))) (PV.r (v_mul (PV.r (pv_int)) (PV.r (pv_name (pv 7))))))) (PV.r (pv_int))) rfl rfl (by first | exact .inl rfl | exact .inr rfl | assumption)) (ss_cons (s_if (t_cmp c_gt (PV.r (pv_name (pv 6))) (PV.r (pv_int))) (ss_one (s_append (pv 4) (v_mod (PV.r (pv_name (pv 6))) (PV.r (pv_int))))) (ss_one (s_append (pv 4) (v_mod (PV.r (v_mod (PV.r (v_mul (PV.r (pv_name (pv 5))) (PV.r (pv_name (pv 5))))) (PV.r (pv_int)))) (PV.r (pv_int)))))) (ss_one (@s_set _ _ _ _ _ _ 6 _ _ sc_l_digits.nd rfl (Or.inl rfl) (v_fdiv (PV.r (pv_name (pv 6))) (PV.r (pv_int))) rfl rfl (by first | exact .inl rfl | exact .inr rfl | assumption))))) PassesOwn.never) (ss_one (s_retO (PFt.rt (PFc.ft (PFr.cf (fr_listrev rfl rfl T.m_list rfl T.m_reversed (pr_name (pv 4)))))))))))))
theorem sc_l_place:FnScope ["_law_purse","_law_digit","_law_number","_law_size"] ["_law_purse"] (defScope s_l_place):=⟨rfl,rfl,rfl,by decide +kernel,rfl,by decide +kernel,by decide +kernel⟩
theorem ok_l_place {f:Addr}{fd:FuncData}(F:Fun K "_law_place" "_law_place" s_l_place f fd)(T:Txt mg) :FnOk P w K mg base CX0 1 f fd ["_law_purse"] (spIO K 0 (.cl) FI_l_place):=
 fn_autoI (k:=0) (fun l=>⟨[(0,.io l)],.cl⟩) F sc_l_place (fun _=>rfl) (fun _=>rfl) [0] (fun _=>rfl) (by decide) B_l_place (fun l cdv hk A outer s H E hr=>ss_consI (s_setX (i:=1) sc_l_place.nd rfl (Or.inl rfl) (x_popI (pv 0))) (ss_consI (s_setX (i:=2) sc_l_place.nd rfl (Or.inl rfl) (x_popI (pv 0))) (ss_ifI (t_cmp (c_eq hr.units) (PV.r (v_mod (PV.r (pv_name (pv 1))) (PV.r (pv_int)))) (PV.r (pv_int))) (ss_retI (j:=0) (PFt.rt (PV.ft (v_tup (ac_cons (v_sub (PV.r (v_mul (PV.r (pv_name (pv 2))) (PV.r (v_pow (PV.r (pv_int)) (PV.r (pv_int)))))) (PV.r (v_mul (PV.r (pv_int)) (PV.r (v_pow (PV.r (pv_int)) (PV.r (pv_int))))))) (ac_cons (v_sub (PV.r (v_mul (PV.r (pv_name (pv 1))) (PV.r (v_pow (PV.r (pv_int)) (PV.r (pv_int)))))) (PV.r (v_mul (PV.r (pv_int)) (PV.r (v_pow (PV.r (pv_int)) (PV.r (pv_int))))))) (ac_nil))))))) (ss_consI (@s_set _ _ _ _ _ _ 3 _ _ sc_l_place.nd rfl (Or.inl rfl) (pv_veil (r_ix (PFr.r (fr_lst (a_cons (PV.r (pv_int)) (a_cons (PV.r (pv_int)) (a_cons (PV.r (pv_int)) (a_cons (PV.r (pv_int)) (a_nil))))))) (PV.r (v_mod (PV.r (v_fdiv (PV.r (pv_name (pv 1))) (PV.r (pv_int)))) (PV.r (pv_int)))))) rfl rfl (by first | exact .inl rfl | exact .inr rfl | assumption)) (ss_retI (j:=0) (PFt.rt (PV.ft (v_tup (ac_cons (v_sub (PV.r (v_mod (PV.r (v_fdiv (PV.r (pv_name (pv 1))) (PV.r (pv_int)))) (PV.r (pv_name (pv 3))))) (PV.r (v_fdiv (PV.r (pv_name (pv 3))) (PV.r (pv_int))))) (ac_cons (v_sub (PV.r (v_mod (PV.r (pv_name (pv 2))) (PV.r (pv_name (pv 3))))) (PV.r (v_fdiv (PV.r (pv_name (pv 3))) (PV.r (pv_int))))) (ac_nil)))))))))))
theorem sc_p_side_between:FnScope ["one","other"] ["one","other"] (defScope s_p_side_between):=⟨rfl,rfl,rfl,by decide +kernel,rfl,by decide +kernel,by decide +kernel⟩
theorem ok_p_side_between {f:Addr}{fd:FuncData}(F:Fun K "side_between" ("side_between") s_p_side_between f fd)(T:Txt mg) :FnOk P w K mg base CX0 1 f fd ["one","other"] (spR K (.cl) F_p_side_between):=
 fn_auto (k:=0) ⟨[],.cl⟩ F sc_p_side_between (by decide) B_p_side_between (fun cdv hk A outer s H E hr=>ss_one (s_ret (PV.r (v_callB (b_max rfl) rfl T.m_max bt_max (a_cons (PV.r (v_callB (b_abs) rfl T.m_abs bt_abs (a_cons (PV.r (v_sub (r_ix (PV.r (pv_name (pv 0))) (PV.r (pv_int))) (r_ix (PV.r (pv_name (pv 1))) (PV.r (pv_int))))) (a_nil)))) (a_cons (PV.r (v_callB (b_abs) rfl T.m_abs bt_abs (a_cons (PV.r (v_sub (r_ix (PV.r (pv_name (pv 0))) (PV.r (pv_int))) (r_ix (PV.r (pv_name (pv 1))) (PV.r (pv_int))))) (a_nil)))) (a_nil)))))))
theorem sc_w_way_between:FnScope ["self","one","other"] ["self","one","other"] (defScope s_w_way_between):=⟨rfl,rfl,rfl,by decide +kernel,rfl,by decide +kernel,by decide +kernel⟩
theorem ok_w_way_between {f:Addr}{fd:FuncData}(F:Fun K "way_between" ("Watch"++"."++"way_between") s_w_way_between f fd)(T:Txt mg)(G_p_side_between:DefOk P w K mg base 1 "side_between" ["one","other"] (.cl) F_p_side_between)(FO_places:FldOk K "Watch" "places"):FnOk P w K mg base CX0 2 f fd ["self","one","other"] (spR K (.cl) F_w_way_between):=
 fn_auto (k:=1) ⟨[],.cl⟩ F sc_w_way_between (by decide) B_w_way_between (fun cdv hk A outer s H E hr=>ss_one (s_ret (r_callD G_p_side_between (hr.mono (by decide)) rfl (a_cons (r_ix (r_fld (cls:="Watch") FO_places (PV.r (pv_name (pv 0)))) (PV.r (pv_name (pv 1)))) (a_cons (r_ix (r_fld (cls:="Watch") FO_places (PV.r (pv_name (pv 0)))) (PV.r (pv_name (pv 2)))) (a_nil))))))
theorem sc_w_is_far:FnScope ["self","number","others"] ["self","number","others"] (defScope s_w_is_far):=⟨rfl,rfl,rfl,by decide +kernel,rfl,by decide +kernel,by decide +kernel⟩
theorem nd_w_is_far_0:(["other","self","number"]:List Str).Nodup:=by decide +kernel
theorem ok_w_is_far {f:Addr}{fd:FuncData}(F:Fun K "is_far" ("Watch"++"."++"is_far") s_w_is_far f fd)(T:Txt mg)(G_w_way_between:DefM P w K mg base 2 "Watch" "way_between" ["self","one","other"] (.cl) F_w_way_between)(FO_last_mark:FldOk K "Watch" "last_mark"):FnOk P w K mg base CX0 3 f fd ["self","number","others"] (spR K (.cl) F_w_is_far):=
 fn_auto (k:=2) ⟨[],.cl⟩ F sc_w_is_far (by decide) B_w_is_far (fun cdv hk A outer s H E hr=>ss_one (s_ret (PV.r (v_all rfl rfl T.m_all (PFr.r (fr_comp (k:=1) (N:=["other","self","number"]) (ix:=[0,1])  (defScope s_w_is_far) rfl ⟨rfl,rfl,by decide +kernel,by decide +kernel,by decide +kernel,rfl,by decide +kernel,rfl⟩ rfl rfl (ir_list (PV.r (pv_name (pv 2)))) (fun _ _ _ _ _ _=>g_name (i:=0) nd_w_is_far_0 rfl (Or.inl rfl)) (fun _ _ _ _ _ _=>if_nil) (fun _ _ _ _ _ _=>PV.r (v_cmp c_gt (r_callM G_w_way_between (hr.mono (by decide)) (PV.r (pv_name (pv 1))) (a_cons (PV.r (pv_name (pv 2))) (a_cons (PV.r (pv_name (pv 0))) (a_nil)))) (PV.r (v_mul (PV.r (pv_int)) (r_fld (cls:="Watch") FO_last_mark (PV.r (pv_name (pv 1))))))))))))))
theorem sc_w_least_way:FnScope ["self","ways","place","number"] ["self"] (defScope s_w_least_way):=⟨rfl,rfl,rfl,by decide +kernel,rfl,by decide +kernel,by decide +kernel⟩
theorem nd_w_least_way_0:(["other","self","number"]:List Str).Nodup:=by decide +kernel
theorem ok_w_least_way {f:Addr}{fd:FuncData}(F:Fun K "least_way" ("Watch"++"."++"least_way") s_w_least_way f fd)(T:Txt mg)(G_w_way_between:DefM P w K mg base 2 "Watch" "way_between" ["self","one","other"] (.cl) F_w_way_between)(FO_chosen:FldOk K "Watch" "chosen"):FnOk P w K mg base CX0 3 f fd ["self"] (spR K (.cl) F_w_least_way):=
 fn_auto (k:=2) ⟨[(1,.lst .cl)],.cl⟩ F sc_w_least_way (by decide) B_w_least_way (fun cdv hk A outer s H E hr=>ss_cons (s_setO (i:=1) sc_w_least_way.nd rfl (Or.inl rfl) (fc_lst (ac_nil))) (ss_cons (s_for rfl (iv_enum rfl T.m_enumerate (v_fld (cls:="Watch") FO_chosen (pv_name (pv 0)))) (g_tup rfl (gs_cons (g_name (i:=2) sc_w_least_way.nd rfl (Or.inl rfl)) (gs_cons (g_name (i:=3) sc_w_least_way.nd rfl (Or.inr rfl)) (gs_nil)))) (ss_one (s_extend (pv 1) (PFr.cf (fr_comp (k:=1) (N:=["other","self","number"]) (ix:=[0,3])  (defScope s_w_least_way) rfl ⟨rfl,rfl,by decide +kernel,by decide +kernel,by decide +kernel,rfl,by decide +kernel,rfl⟩ rfl rfl (ir_list (PFr.r (fr_slice (r_fld (cls:="Watch") FO_chosen (PV.r (pv_name (pv 0)))) (o_none) (o_some (PV.r (pv_name (pv 2))))))) (fun _ _ _ _ _ _=>g_name (i:=0) nd_w_least_way_0 rfl (Or.inl rfl)) (fun _ _ _ _ _ _=>if_nil) (fun _ _ _ _ _ _=>r_callM G_w_way_between (hr.mono (by decide)) (PV.r (pv_name (pv 1))) (a_cons (PV.r (pv_name (pv 2))) (a_cons (PV.r (pv_name (pv 0))) (a_nil)))))))) PassesOwn.never) (ss_one (s_ret (PV.r (v_minL rfl rfl T.m_min (pr_name (pv 1))))))))
theorem sc_w_raise_mark:FnScope ["self","kept","number"] ["self"] (defScope s_w_raise_mark):=⟨rfl,rfl,rfl,by decide +kernel,rfl,by decide +kernel,by decide +kernel⟩
theorem ok_w_raise_mark {f:Addr}{fd:FuncData}(F:Fun K "raise_mark" ("Watch"++"."++"raise_mark") s_w_raise_mark f fd)(T:Txt mg)(G_w_least_way:DefM P w K mg base 3 "Watch" "least_way" ["self"] (.cl) F_w_least_way)(G_w_is_far:DefM P w K mg base 3 "Watch" "is_far" ["self","number","others"] (.cl) F_w_is_far)(FO_chosen:FldOk K "Watch" "chosen")(FO_last_bar:FldOk K "Watch" "last_bar")(FO_last_mark:FldOk K "Watch" "last_mark"):FnOk P w K mg base CX0 4 f fd ["self"] (spRc K "Watch" ["many","places","chosen","last_mark","last_bar"] [.cl,.lst .cl,.lst .cl,.cl,.cl] ["many","places","chosen","last_mark","last_bar"] [.cl,.lst .cl,.lst .cl,.cl,.cl] FR_w_raise_mark):=
 fn_autoR (k:=3) (fun l=>⟨[(0,.rc (some l) "Watch" ["many","places","chosen","last_mark","last_bar"] [.cl,.lst .cl,.lst .cl,.cl,.cl]),(1,.lst .cl)],.cl⟩) F sc_w_raise_mark (fun _=>rfl) [0,1] (fun _=>rfl) (by decide) B_w_raise_mark (fun l cdv hk A outer s H E hr=>ss_looseR (k:=2) (O':=⟨[(0,.rc (some l) "Watch" ["many","places","chosen","last_mark","last_bar"] [.cl,.lst .cl,.cl,.cl,.cl]),(1,.lst .cl)],.cl⟩) (ss_consR (s_setF (k:=4) FO_last_bar (pv 0) (v_fldO (k:=2) FO_chosen (pv 0))) (ss_consR (s_setF (k:=3) FO_last_mark (pv 0) (PR.clf (r_callM0 G_w_least_way (hr.mono (by decide)) (pr_name (pv 0))))) (ss_consR (s_setO (i:=1) sc_w_raise_mark.nd rfl (Or.inl rfl) (fc_lst (ac_nil))) (ss_consR (s_for rfl (iv_list (v_fldO (k:=4) FO_last_bar (pv 0))) (g_name (i:=2) sc_w_raise_mark.nd rfl (Or.inl rfl)) (ss_one (s_if (t_val (r_callM G_w_is_far (hr.mono (by decide)) (pr_name (pv 0)) (a_cons (PV.r (pv_name (pv 2))) (a_cons (pr_name (pv 1)) (a_nil))))) (ss_one (s_append (pv 1) (pv_name (pv 2)))) (ss_nil))) PassesOwn.never) (ss_moveR (k:=2) (j:=1) FO_chosen (pv 0) (pv 1)))))))
theorem sc_w_come:FnScope ["self","x","y","number"] ["self","x","y"] (defScope s_w_come):=⟨rfl,rfl,rfl,by decide +kernel,rfl,by decide +kernel,by decide +kernel⟩
theorem ok_w_come {f:Addr}{fd:FuncData}(F:Fun K "come" ("Watch"++"."++"come") s_w_come f fd)(T:Txt mg)(G_w_is_far:DefM P w K mg base 3 "Watch" "is_far" ["self","number","others"] (.cl) F_w_is_far)(G_w_raise_mark:DefRc P w K mg base 4 "Watch" "raise_mark" ["self"] ["many","places","chosen","last_mark","last_bar"] [.cl,.lst .cl,.lst .cl,.cl,.cl] FR_w_raise_mark)(FO_chosen:FldOk K "Watch" "chosen")(FO_many:FldOk K "Watch" "many")(FO_places:FldOk K "Watch" "places"):FnOk P w K mg base CX0 5 f fd ["self","x","y"] (spRc K "Watch" ["many","places","chosen","last_mark","last_bar"] [.cl,.lst .cl,.lst .cl,.cl,.cl] ["many","places","chosen","last_mark","last_bar"] [.cl,.lst .cl,.lst .cl,.cl,.cl] FR_w_come):=
 fn_autoR (k:=4) (fun l=>⟨[(0,.rc (some l) "Watch" ["many","places","chosen","last_mark","last_bar"] [.cl,.lst .cl,.lst .cl,.cl,.cl])],.cl⟩) F sc_w_come (fun _=>rfl) [0] (fun _=>rfl) (by decide) B_w_come (fun l cdv hk A outer s H E hr=>ss_consR (@s_set _ _ _ _ _ _ 3 _ _ sc_w_come.nd rfl (Or.inl rfl) (v_callB (b_len) rfl T.m_len bt_len (a_cons (r_fld (cls:="Watch") FO_places (pr_name (pv 0))) (a_nil))) rfl rfl (by first | exact .inl rfl | exact .inr rfl | assumption)) (ss_consR (s_appF (k:=1) FO_places (pv 0) (v_tup (ac_cons (pv_name (pv 1)) (ac_cons (pv_name (pv 2)) (ac_nil))))) (ss_consR (s_if (t_val (r_callM G_w_is_far (hr.mono (by decide)) (pr_name (pv 0)) (a_cons (PV.r (pv_name (pv 3))) (a_cons (r_fld (cls:="Watch") FO_chosen (pr_name (pv 0))) (a_nil))))) (ss_one (s_appF (k:=2) FO_chosen (pv 0) (pv_name (pv 3)))) (ss_nil)) (ss_consR (s_while (fun ρ=>64) (t_cmp c_gt (PV.r (v_callB (b_len) rfl T.m_len bt_len (a_cons (r_fld (cls:="Watch") FO_chosen (pr_name (pv 0))) (a_nil)))) (r_fld (cls:="Watch") FO_many (pr_name (pv 0)))) (ss_one (s_methR0 G_w_raise_mark (hr.mono (by decide)) (pv 0))) PassesOwn.never) (ss_retR (pv_name (pv 3)))))))
theorem sc_p_check_many:FnScope ["many"] ["many"] (defScope s_p_check_many):=⟨rfl,rfl,rfl,by decide +kernel,rfl,by decide +kernel,by decide +kernel⟩
theorem ok_p_check_many {f:Addr}{fd:FuncData}(F:Fun K "check_many" "check_many" s_p_check_many f fd)(T:Txt mg){C_NoMany:Addr}(X_NoMany:XCD K mg "NoMany" C_NoMany):FnOk P w K mg base (CXe P w) 1 f fd ["many"] (spX K (.cl) FX_p_check_many):=
 fn_autoX (k:=0) ⟨[],.cl⟩ F sc_p_check_many (by decide) BX_p_check_many (fun cdv hk A outer s H E hr=>xx_one (xx_if (t_cmp c_lt (PV.r (pv_name (pv 0))) (PV.r (pv_int))) (xx_one (xx_raise0 rfl rfl (X_NoMany.at rfl))) (xx_nil)))
theorem sc_w_xinit:FnScope ["self","many"] ["self","many"] (defScope s_w_xinit):=⟨rfl,rfl,rfl,by decide +kernel,rfl,by decide +kernel,by decide +kernel⟩
theorem ok_w_xinit {f:Addr}{fd:FuncData}(F:Fun K "__init__" ("Watch"++".__init__") s_w_xinit f fd)(T:Txt mg)(G_p_check_many:DefX P w K mg base 1 "check_many" ["many"] (.cl) FX_p_check_many)(FO1:FldOk K "Watch" "many")(FO2:FldOk K "Watch" "places"):FnOk P w K mg base (CXe P w) 2 f fd ["self","many"] (spNewX K "Watch" "many" "places" FN_w_xinit):=
 fn_autoNX (k:=1) FO1 FO2 F sc_w_xinit B_w_xinit (fun z cdv hk A outer s H E hr=>kbx_cons (kx_call (xt_call G_p_check_many (hr.mono (by decide)) rfl rfl (ac_cons (pv_name (pv 1)) (ac_nil)))) kbx_never)
theorem sc_l_classes:FnScope ["_law_kept","_law_found"] ["_law_kept"] (defScope s_l_classes):=⟨rfl,rfl,rfl,by decide +kernel,rfl,by decide +kernel,by decide +kernel⟩
theorem ok_l_classes {f:Addr}{fd:FuncData}(F:Fun K "_law_classes" ("_law_classes") s_l_classes f fd)(T:Txt mg){D_NoRing:Addr}(I_NoRing:IsT K mg exNames "NoRing" D_NoRing){D_NoReach:Addr}(I_NoReach:IsT K mg exNames "NoReach" D_NoReach){D_NoPosts:Addr}(I_NoPosts:IsT K mg exNames "NoPosts" D_NoPosts){D_NoMany:Addr}(I_NoMany:IsT K mg exNames "NoMany" D_NoMany){D_NoFolk:Addr}(I_NoFolk:IsT K mg exNames "NoFolk" D_NoFolk){D_NoWord:Addr}(I_NoWord:IsT K mg exNames "NoWord" D_NoWord){D_NoLine:Addr}(I_NoLine:IsT K mg exNames "NoLine" D_NoLine){D_NoWay:Addr}(I_NoWay:IsT K mg exNames "NoWay" D_NoWay){D_NoTable:Addr}(I_NoTable:IsT K mg exNames "NoTable" D_NoTable){D_NoPost:Addr}(I_NoPost:IsT K mg exNames "NoPost" D_NoPost){D_NoName:Addr}(I_NoName:IsT K mg exNames "NoName" D_NoName){D_NoText:Addr}(I_NoText:IsT K mg exNames "NoText" D_NoText){D_NoThing:Addr}(I_NoThing:IsT K mg exNames "NoThing" D_NoThing):FnOk P w K mg base CX0 1 f fd ["_law_kept"] (spR K (.cl) F_l_classes):=
 fn_auto (k:=0) ⟨[],.cl⟩ F sc_l_classes (by decide) B_l_classes (fun cdv hk A outer s H E hr=>ss_cons (@s_set _ _ _ _ _ _ 1 _ _ sc_l_classes.nd rfl (Or.inl rfl) (PFc.v (PFr.cz (fr_lst (a_cons (PV.r (v_isiC I_NoMany (PV.r (pv_name (pv 0))) rfl T.m_isinstance rfl)) (a_cons (PV.r (v_isiC I_NoPosts (PV.r (pv_name (pv 0))) rfl T.m_isinstance rfl)) (a_cons (PV.r (v_isiC I_NoReach (PV.r (pv_name (pv 0))) rfl T.m_isinstance rfl)) (a_cons (PV.r (v_isiC I_NoRing (PV.r (pv_name (pv 0))) rfl T.m_isinstance rfl)) (a_nil)))))))) rfl rfl (by first | exact .inl rfl | exact .inr rfl | assumption)) (ss_cons (@s_set _ _ _ _ _ _ 1 _ _ sc_l_classes.nd rfl (Or.inl rfl) (PFc.v (PFr.cz (fr_cat (PV.r (pv_name (pv 1))) (PFr.r (fr_lst (a_cons (PV.r (v_isiC I_NoLine (PV.r (pv_name (pv 0))) rfl T.m_isinstance rfl)) (a_cons (PV.r (v_isiC I_NoWord (PV.r (pv_name (pv 0))) rfl T.m_isinstance rfl)) (a_cons (PV.r (v_isiC I_NoFolk (PV.r (pv_name (pv 0))) rfl T.m_isinstance rfl)) (a_nil))))))))) rfl rfl (by first | exact .inl rfl | exact .inr rfl | assumption)) (ss_cons (@s_set _ _ _ _ _ _ 1 _ _ sc_l_classes.nd rfl (Or.inl rfl) (PFc.v (PFr.cz (fr_cat (PV.r (pv_name (pv 1))) (PFr.r (fr_lst (a_cons (PV.r (v_isiC I_NoPost (PV.r (pv_name (pv 0))) rfl T.m_isinstance rfl)) (a_cons (PV.r (v_isiC I_NoTable (PV.r (pv_name (pv 0))) rfl T.m_isinstance rfl)) (a_cons (PV.r (v_isiC I_NoWay (PV.r (pv_name (pv 0))) rfl T.m_isinstance rfl)) (a_nil))))))))) rfl rfl (by first | exact .inl rfl | exact .inr rfl | assumption)) (ss_one (s_ret (PFr.r (fr_cat (PV.r (pv_name (pv 1))) (PFr.r (fr_lst (a_cons (PV.r (v_isiC I_NoThing (PV.r (pv_name (pv 0))) rfl T.m_isinstance rfl)) (a_cons (PV.r (v_isiC I_NoText (PV.r (pv_name (pv 0))) rfl T.m_isinstance rfl)) (a_cons (PV.r (v_isiC I_NoName (PV.r (pv_name (pv 0))) rfl T.m_isinstance rfl)) (a_nil)))))))))))))
theorem sc_l_which:FnScope ["_law_kept"] ["_law_kept"] (defScope s_l_which):=⟨rfl,rfl,rfl,by decide +kernel,rfl,by decide +kernel,by decide +kernel⟩
theorem ok_l_which {f:Addr}{fd:FuncData}(F:Fun K "_law_which" ("_law_which") s_l_which f fd)(T:Txt mg)(G_l_classes:DefOk P w K mg base 1 "_law_classes" ["_law_kept"] (.cl) F_l_classes)(I_ValueError:IsV K exNames):FnOk P w K mg base CX0 2 f fd ["_law_kept"] (spR K (.cl) F_l_which):=
 fn_auto (k:=1) ⟨[],.cl⟩ F sc_l_which (by decide) B_l_which (fun cdv hk A outer s H E hr=>ss_cons (s_if (t_w (w_or (t_not (t_val (PV.r (v_isiV I_ValueError (PV.r (pv_name (pv 0))) rfl T.m_isinstance rfl T.m_ValueError bt_ValueError)))) (w_or1 (t_cmp (c_ne hr.units) (PV.r (v_count (r_callD G_l_classes (hr.mono (by decide)) rfl (a_cons (PV.r (pv_name (pv 0))) (a_nil))) (PV.r (pv_bl)))) (PV.r (pv_int)))))) (ss_one (s_ret (PV.r (v_neg (PV.r (pv_int)))))) (ss_nil)) (ss_one (s_ret (PV.r (v_index (r_callD G_l_classes (hr.mono (by decide)) rfl (a_cons (PV.r (pv_name (pv 0))) (a_nil))) (PV.r (pv_bl)))))))
theorem sc_l_refused:FnScope ["_law_many","_law_kept","e"] ["_law_many"] (defScope s_l_refused):=⟨rfl,rfl,rfl,by decide +kernel,rfl,by decide +kernel,by decide +kernel⟩
theorem ok_l_refused {f:Addr}{fd:FuncData}(F:Fun K "_law_refused" ("_law_refused") s_l_refused f fd)(T:Txt mg)(G_w_xinit:DefNX P w K mg base 2 "Watch" ["self","many"] "many" "places" FN_w_xinit)(G_l_which:DefOk P w K mg base 2 "_law_which" ["_law_kept"] (.cl) F_l_which){D_PostError:Addr}(P_PostError:mg "PostError"=some (.ref D_PostError)∧Caught K exNames D_PostError):FnOk P w K mg base CX0 4 f fd ["_law_many"] (spR K (.cl) F_l_refused):=
 fn_auto (k:=3) ⟨[],.cl⟩ F sc_l_refused (by decide) B_l_refused (fun cdv hk A outer s H E hr=>ss_cons (@s_set _ _ _ _ _ _ 1 _ _ sc_l_refused.nd rfl (Or.inl rfl) (pv_non) rfl rfl (by first | exact .inl rfl | exact .inr rfl | assumption)) (ss_cons (s_try (ie:=2) rfl rfl rfl rfl sc_l_refused.nd rfl rfl (.inl rfl) rfl rfl P_PostError.1 P_PostError.2 (fun pn W=>xx_one (xx_expr (xt_make G_w_xinit (hr.mono (by decide)) rfl rfl (ac_cons (pv_name (pv 0)) (ac_nil))))) (fun pn a=>ss_one (@s_set _ _ _ _ _ _ 1 _ _ sc_l_refused.nd rfl (Or.inl rfl) (pv_name (pv 2)) rfl rfl (by first | exact .inl rfl | exact .inr rfl | assumption)))) (ss_one (s_ret (PV.r (v_cmp (c_eq hr.units) (r_callD G_l_which (hr.mono (by decide)) rfl (a_cons (PV.r (pv_name (pv 1))) (a_nil))) (PV.r (pv_int))))))))
theorem sc_w_init:FnScope ["self","many"] ["self","many"] (defScope s_w_init):=⟨rfl,rfl,rfl,by decide +kernel,rfl,by decide +kernel,by decide +kernel⟩
theorem ok_w_init {f:Addr}{fd:FuncData}(F:Fun K "__init__" ("Watch"++".__init__") s_w_init f fd)(T:Txt mg)(G_p_check_many:DefX P w K mg base 1 "check_many" ["many"] (.cl) FX_p_check_many)(FO_last_bar:FldOk K "Watch" "last_bar")(FO_last_mark:FldOk K "Watch" "last_mark")(FO_chosen:FldOk K "Watch" "chosen")(FO_places:FldOk K "Watch" "places")(FO_many:FldOk K "Watch" "many"):FnOk P w K mg base CX0 2 f fd ["self","many"] (spRc K "Watch" [] [] ["many","places","chosen","last_mark","last_bar"] [.cl,.lst .cl,.lst .cl,.cl,.cl] FR_w_init):=
 fn_autoR (k:=1) (fun l=>⟨[(0,.rc (some l) "Watch" [] [])],.cl⟩) F sc_w_init (fun _=>rfl) [0] (fun _=>rfl) (by decide) B_w_init (fun l cdv hk A outer s H E hr=>ss_consR (s_expr (r_callD (DefX.ok G_p_check_many) (hr.mono (by decide)) rfl (a_cons (PV.r (pv_name (pv 1))) (a_nil)))) (ss_newF (ns0:=[]) (ts0:=[]) (T:=.cl) (O':=⟨[(0,.rc (some l) "Watch" ["many"] [.cl])],.cl⟩) FO_many (pv 0) (PV.ft (pv_name (pv 1))) (ss_newF (ns0:=["many"]) (ts0:=[.cl]) (T:=.lst .cl) (O':=⟨[(0,.rc (some l) "Watch" ["many","places"] [.cl,.lst .cl])],.cl⟩) FO_places (pv 0) (PFc.ft (fc_lst (ac_nil))) (ss_newF (ns0:=["many","places"]) (ts0:=[.cl,.lst .cl]) (T:=.lst .cl) (O':=⟨[(0,.rc (some l) "Watch" ["many","places","chosen"] [.cl,.lst .cl,.lst .cl])],.cl⟩) FO_chosen (pv 0) (PFc.ft (fc_lst (ac_nil))) (ss_newF (ns0:=["many","places","chosen"]) (ts0:=[.cl,.lst .cl,.lst .cl]) (T:=.cl) (O':=⟨[(0,.rc (some l) "Watch" ["many","places","chosen","last_mark"] [.cl,.lst .cl,.lst .cl,.cl])],.cl⟩) FO_last_mark (pv 0) (PV.ft (pv_int)) (ss_newF (ns0:=["many","places","chosen","last_mark"]) (ts0:=[.cl,.lst .cl,.lst .cl,.cl]) (T:=.cl) (O':=⟨[(0,.rc (some l) "Watch" ["many","places","chosen","last_mark","last_bar"] [.cl,.lst .cl,.lst .cl,.cl,.cl])],.cl⟩) FO_last_bar (pv 0) (PV.ft (pv_non)) (ss_endR)))))))
theorem sc_w_folk:FnScope ["self"] ["self"] (defScope s_w_folk):=⟨rfl,rfl,rfl,by decide +kernel,rfl,by decide +kernel,by decide +kernel⟩
theorem ok_w_folk {f:Addr}{fd:FuncData}(F:Fun K "folk" ("Watch"++"."++"folk") s_w_folk f fd)(T:Txt mg)(FO_places:FldOk K "Watch" "places"):FnOk P w K mg base CX0 1 f fd ["self"] (spR K (.lst .cl) F_w_folk):=
 fn_auto (k:=0) ⟨[],.lst .cl⟩ F sc_w_folk (by decide) B_w_folk (fun cdv hk A outer s H E hr=>ss_one (s_retO (PFt.rt (PFc.ft (PFr.cz (fr_list rfl T.m_list (r_fld (cls:="Watch") FO_places (PV.r (pv_name (pv 0))))))))))
theorem sc_w_posts:FnScope ["self"] ["self"] (defScope s_w_posts):=⟨rfl,rfl,rfl,by decide +kernel,rfl,by decide +kernel,by decide +kernel⟩
theorem ok_w_posts {f:Addr}{fd:FuncData}(F:Fun K "posts" ("Watch"++"."++"posts") s_w_posts f fd)(T:Txt mg)(FO_chosen:FldOk K "Watch" "chosen"):FnOk P w K mg base CX0 1 f fd ["self"] (spR K (.lst .cl) F_w_posts):=
 fn_auto (k:=0) ⟨[],.lst .cl⟩ F sc_w_posts (by decide) B_w_posts (fun cdv hk A outer s H E hr=>ss_one (s_retO (PFt.rt (PFc.ft (PFr.cz (fr_list rfl T.m_list (r_fld (cls:="Watch") FO_chosen (PV.r (pv_name (pv 0))))))))))
theorem sc_w_bar:FnScope ["self"] ["self"] (defScope s_w_bar):=⟨rfl,rfl,rfl,by decide +kernel,rfl,by decide +kernel,by decide +kernel⟩
theorem ok_w_bar {f:Addr}{fd:FuncData}(F:Fun K "bar" ("Watch"++"."++"bar") s_w_bar f fd)(T:Txt mg)(FO_last_bar:FldOk K "Watch" "last_bar"):FnOk P w K mg base CX0 1 f fd ["self"] (spR K (.lst .cl) F_w_bar):=
 fn_auto (k:=0) ⟨[],.lst .cl⟩ F sc_w_bar (by decide) B_w_bar (fun cdv hk A outer s H E hr=>ss_one (s_retO (PFt.rt (ft_if (t_cmp c_is (r_fld (cls:="Watch") FO_last_bar (PV.r (pv_name (pv 0)))) (PV.r (pv_non))) (ft_non) (PFc.ft (PFr.cz (fr_list rfl T.m_list (r_fld (cls:="Watch") FO_last_bar (PV.r (pv_name (pv 0)))))))))))
theorem sc_w_mark:FnScope ["self"] ["self"] (defScope s_w_mark):=⟨rfl,rfl,rfl,by decide +kernel,rfl,by decide +kernel,by decide +kernel⟩
theorem ok_w_mark {f:Addr}{fd:FuncData}(F:Fun K "mark" ("Watch"++"."++"mark") s_w_mark f fd)(T:Txt mg)(FO_last_mark:FldOk K "Watch" "last_mark"):FnOk P w K mg base CX0 1 f fd ["self"] (spR K (.cl) F_w_mark):=
 fn_auto (k:=0) ⟨[],.cl⟩ F sc_w_mark (by decide) B_w_mark (fun cdv hk A outer s H E hr=>ss_one (s_ret (r_fld (cls:="Watch") FO_last_mark (PV.r (pv_name (pv 0))))))
theorem sc_w_way_to_post:FnScope ["self","number"] ["self","number"] (defScope s_w_way_to_post):=⟨rfl,rfl,rfl,by decide +kernel,rfl,by decide +kernel,by decide +kernel⟩
theorem nd_w_way_to_post_0:(["post","self","number"]:List Str).Nodup:=by decide +kernel
theorem ok_w_way_to_post {f:Addr}{fd:FuncData}(F:Fun K "way_to_post" ("Watch"++"."++"way_to_post") s_w_way_to_post f fd)(T:Txt mg)(G_w_way_between:DefM P w K mg base 2 "Watch" "way_between" ["self","one","other"] (.cl) F_w_way_between)(FO_chosen:FldOk K "Watch" "chosen"):FnOk P w K mg base CX0 3 f fd ["self","number"] (spR K (.cl) F_w_way_to_post):=
 fn_auto (k:=2) ⟨[],.cl⟩ F sc_w_way_to_post (by decide) B_w_way_to_post (fun cdv hk A outer s H E hr=>ss_one (s_ret (PV.r (v_minL rfl rfl T.m_min (PFr.r (fr_comp (k:=1) (N:=["post","self","number"]) (ix:=[0,1])  (defScope s_w_way_to_post) rfl ⟨rfl,rfl,by decide +kernel,by decide +kernel,by decide +kernel,rfl,by decide +kernel,rfl⟩ rfl rfl (ir_list (r_fld (cls:="Watch") FO_chosen (PV.r (pv_name (pv 0))))) (fun _ _ _ _ _ _=>g_name (i:=0) nd_w_way_to_post_0 rfl (Or.inl rfl)) (fun _ _ _ _ _ _=>if_nil) (fun _ _ _ _ _ _=>r_callM G_w_way_between (hr.mono (by decide)) (PV.r (pv_name (pv 1))) (a_cons (PV.r (pv_name (pv 2))) (a_cons (PV.r (pv_name (pv 0))) (a_nil))))))))))
theorem sc_w_reach:FnScope ["self"] ["self"] (defScope s_w_reach):=⟨rfl,rfl,rfl,by decide +kernel,rfl,by decide +kernel,by decide +kernel⟩
theorem nd_w_reach_0:(["number","self"]:List Str).Nodup:=by decide +kernel
theorem ok_w_reach {f:Addr}{fd:FuncData}(F:Fun K "reach" ("Watch"++"."++"reach") s_w_reach f fd)(T:Txt mg)(G_w_way_to_post:DefM P w K mg base 3 "Watch" "way_to_post" ["self","number"] (.cl) F_w_way_to_post)(FO_places:FldOk K "Watch" "places"):FnOk P w K mg base CX0 4 f fd ["self"] (spR K (.cl) F_w_reach):=
 fn_auto (k:=3) ⟨[],.cl⟩ F sc_w_reach (by decide) B_w_reach (fun cdv hk A outer s H E hr=>ss_one (s_ret (PV.r (v_maxDf hr.hd rfl T.m_max (PFr.r (fr_comp (k:=1) (N:=["number","self"]) (ix:=[0])  (defScope s_w_reach) rfl ⟨rfl,rfl,by decide +kernel,by decide +kernel,by decide +kernel,rfl,by decide +kernel,rfl⟩ rfl rfl (PIv.raw (iv_rng1 rfl T.m_range (a_cons (PV.r (v_callB (b_len) rfl T.m_len bt_len (a_cons (r_fld (cls:="Watch") FO_places (PV.r (pv_name (pv 0)))) (a_nil)))) (a_nil)))) (fun _ _ _ _ _ _=>g_name (i:=0) nd_w_reach_0 rfl (Or.inl rfl)) (fun _ _ _ _ _ _=>if_nil) (fun _ _ _ _ _ _=>r_callM G_w_way_to_post (hr.mono (by decide)) (PV.r (pv_name (pv 1))) (a_cons (PV.r (pv_name (pv 0))) (a_nil)))))))))
theorem sc_l_whole:FnScope ["_law_found"] ["_law_found"] (defScope s_l_whole):=⟨rfl,rfl,rfl,by decide +kernel,rfl,by decide +kernel,by decide +kernel⟩
theorem ok_l_whole {f:Addr}{fd:FuncData}(F:Fun K "_law_whole" ("_law_whole") s_l_whole f fd)(T:Txt mg) :FnOk P w K mg base CX0 1 f fd ["_law_found"] (spR K (.cl) F_l_whole):=
 fn_auto (k:=0) ⟨[],.cl⟩ F sc_l_whole (by decide) B_l_whole (fun cdv hk A outer s H E hr=>ss_one (s_ret (r_and (PV.r (v_isi "int" (PV.r (pv_name (pv 0))) (by simp) rfl T.m_isinstance rfl T.m_int bt_int)) (r_one (PV.r (v_not (PV.r (v_isi "bool" (PV.r (pv_name (pv 0))) (by simp) rfl T.m_isinstance rfl T.m_bool bt_bool))))))))
theorem sc_l_wholes:FnScope ["_law_row"] ["_law_row"] (defScope s_l_wholes):=⟨rfl,rfl,rfl,by decide +kernel,rfl,by decide +kernel,by decide +kernel⟩
theorem nd_l_wholes_0:(["_law_number"]:List Str).Nodup:=by decide +kernel
theorem ok_l_wholes {f:Addr}{fd:FuncData}(F:Fun K "_law_wholes" ("_law_wholes") s_l_wholes f fd)(T:Txt mg)(G_l_whole:DefOk P w K mg base 1 "_law_whole" ["_law_found"] (.cl) F_l_whole):FnOk P w K mg base CX0 2 f fd ["_law_row"] (spR K (.cl) F_l_wholes):=
 fn_auto (k:=1) ⟨[],.cl⟩ F sc_l_wholes (by decide) B_l_wholes (fun cdv hk A outer s H E hr=>ss_one (s_ret (r_and (PV.r (v_isi "list" (PV.r (pv_name (pv 0))) (by simp) rfl T.m_isinstance rfl T.m_list bt_list)) (r_one (PV.r (v_cmp (c_eq hr.units) (PFr.r (fr_comp (k:=1) (N:=["_law_number"]) (ix:=[])  (defScope s_l_wholes) rfl ⟨rfl,rfl,by decide +kernel,by decide +kernel,by decide +kernel,rfl,by decide +kernel,rfl⟩ rfl rfl (ir_list (PV.r (pv_name (pv 0)))) (fun _ _ _ _ _ _=>g_name (i:=0) nd_l_wholes_0 rfl (Or.inl rfl)) (fun _ _ _ _ _ _=>if_one (t_not (t_val (r_callD G_l_whole (hr.mono (by decide)) rfl (a_cons (PV.r (pv_name (pv 0))) (a_nil)))))) (fun _ _ _ _ _ _=>PV.r (pv_name (pv 0))))) (PFr.r (fr_lst (a_nil)))))))))
theorem sc_l_way:FnScope ["_law_model","_law_one","_law_other","_law_x","_law_y","_law_u","_law_v"] ["_law_model","_law_one","_law_other"] (defScope s_l_way):=⟨rfl,rfl,rfl,by decide +kernel,rfl,by decide +kernel,by decide +kernel⟩
theorem ok_l_way {f:Addr}{fd:FuncData}(F:Fun K "_law_way" ("_law_way") s_l_way f fd)(T:Txt mg) :FnOk P w K mg base CX0 1 f fd ["_law_model","_law_one","_law_other"] (spR K (.cl) F_l_way):=
 fn_auto (k:=0) ⟨[],.cl⟩ F sc_l_way (by decide) B_l_way (fun cdv hk A outer s H E hr=>ss_cons (s_asg (PR.cl0 (r_ix (r_dget hr.units (PV.r (pv_name (pv 0)))) (PV.r (pv_name (pv 1))))) (g_tup rfl (gs_cons (g_name (i:=3) sc_l_way.nd rfl (Or.inl rfl)) (gs_cons (g_name (i:=4) sc_l_way.nd rfl (Or.inl rfl)) (gs_nil))))) (ss_cons (s_asg (PR.cl0 (r_ix (r_dget hr.units (PV.r (pv_name (pv 0)))) (PV.r (pv_name (pv 2))))) (g_tup rfl (gs_cons (g_name (i:=5) sc_l_way.nd rfl (Or.inl rfl)) (gs_cons (g_name (i:=6) sc_l_way.nd rfl (Or.inl rfl)) (gs_nil))))) (ss_one (s_ret (PV.r (v_callB (b_max rfl) rfl T.m_max bt_max (a_cons (PV.r (v_callB (b_abs) rfl T.m_abs bt_abs (a_cons (PV.r (v_sub (PV.r (pv_name (pv 3))) (PV.r (pv_name (pv 5))))) (a_nil)))) (a_cons (PV.r (v_callB (b_abs) rfl T.m_abs bt_abs (a_cons (PV.r (v_sub (PV.r (pv_name (pv 4))) (PV.r (pv_name (pv 6))))) (a_nil)))) (a_nil)))))))))
theorem sc_l_far:FnScope ["_law_model","_law_found","_law_number"] ["_law_model"] (defScope s_l_far):=⟨rfl,rfl,rfl,by decide +kernel,rfl,by decide +kernel,by decide +kernel⟩
theorem nd_l_far_0:(["_law_post","_law_model","_law_number"]:List Str).Nodup:=by decide +kernel
theorem ok_l_far {f:Addr}{fd:FuncData}(F:Fun K "_law_far" ("_law_far") s_l_far f fd)(T:Txt mg)(G_l_way:DefOk P w K mg base 1 "_law_way" ["_law_model","_law_one","_law_other"] (.cl) F_l_way):FnOk P w K mg base CX0 2 f fd ["_law_model"] (spR K (.cl) F_l_far):=
 fn_auto (k:=1) ⟨[],.cl⟩ F sc_l_far (by decide) B_l_far (fun cdv hk A outer s H E hr=>ss_cons (@s_set _ _ _ _ _ _ 1 _ _ sc_l_far.nd rfl (Or.inl rfl) (pv_int) rfl rfl (by first | exact .inl rfl | exact .inr rfl | assumption)) (ss_cons (s_for rfl (iv_rng1 rfl T.m_range (a_cons (PV.r (v_callB (b_len) rfl T.m_len bt_len (a_cons (r_dget hr.units (PV.r (pv_name (pv 0)))) (a_nil)))) (a_nil))) (g_name (i:=2) sc_l_far.nd rfl (Or.inr rfl)) (ss_one (@s_set _ _ _ _ _ _ 1 _ _ sc_l_far.nd rfl (Or.inl rfl) (v_callB (b_max rfl) rfl T.m_max bt_max (a_cons (PV.r (pv_name (pv 1))) (a_cons (PV.r (v_minL rfl rfl T.m_min (PFr.r (fr_comp (k:=1) (N:=["_law_post","_law_model","_law_number"]) (ix:=[0,2])  (defScope s_l_far) rfl ⟨rfl,rfl,by decide +kernel,by decide +kernel,by decide +kernel,rfl,by decide +kernel,rfl⟩ rfl rfl (ir_list (r_dget hr.units (PV.r (pv_name (pv 0))))) (fun _ _ _ _ _ _=>g_name (i:=0) nd_l_far_0 rfl (Or.inl rfl)) (fun _ _ _ _ _ _=>if_nil) (fun _ _ _ _ _ _=>r_callD G_l_way (hr.mono (by decide)) rfl (a_cons (PV.r (pv_name (pv 1))) (a_cons (PV.r (pv_name (pv 2))) (a_cons (PV.r (pv_name (pv 0))) (a_nil))))))))) (a_nil)))) rfl rfl (by first | exact .inl rfl | exact .inr rfl | assumption))) PassesOwn.never) (ss_one (s_ret (PV.r (pv_name (pv 1)))))))
theorem sc_l_is_so:FnScope ["_law_watch","_law_model","_law_places","_law_place_here","_law_told","_law_row","_law_numbers"] ["_law_watch","_law_model"] (defScope s_l_is_so):=⟨rfl,rfl,rfl,by decide +kernel,rfl,by decide +kernel,by decide +kernel⟩
theorem ok_l_is_so {f:Addr}{fd:FuncData}(F:Fun K "_law_is_so" ("_law_is_so") s_l_is_so f fd)(T:Txt mg)(G_w_folk:DefM P w K mg base 1 "Watch" "folk" ["self"] (.lst .cl) F_w_folk)(G_w_posts:DefM P w K mg base 1 "Watch" "posts" ["self"] (.lst .cl) F_w_posts)(G_w_bar:DefM P w K mg base 1 "Watch" "bar" ["self"] (.lst .cl) F_w_bar)(G_w_mark:DefM P w K mg base 1 "Watch" "mark" ["self"] (.cl) F_w_mark)(G_w_reach:DefM P w K mg base 4 "Watch" "reach" ["self"] (.cl) F_w_reach)(G_l_wholes:DefOk P w K mg base 2 "_law_wholes" ["_law_row"] (.cl) F_l_wholes)(G_l_whole:DefOk P w K mg base 1 "_law_whole" ["_law_found"] (.cl) F_l_whole)(G_l_far:DefOk P w K mg base 2 "_law_far" ["_law_model"] (.cl) F_l_far)(FO_many:FldOk K "Watch" "many"):FnOk P w K mg base CX0 5 f fd ["_law_watch","_law_model"] (spR K (.cl) F_l_is_so):=
 fn_auto (k:=4) ⟨[(2,.lst .cl),(4,.lst (.lst .cl))],.cl⟩ F sc_l_is_so (by decide) B_l_is_so (fun cdv hk A outer s H E hr=>ss_cons (s_setT (i:=2) sc_l_is_so.nd rfl (Or.inl rfl) (ft_callM0 G_w_folk (hr.mono (by decide)) (pv_name (pv 0)))) (ss_cons (s_if (t_w (w_or (t_not (t_val (PV.r (v_isi "list" (pr_name (pv 2)) (by simp) rfl T.m_isinstance rfl T.m_list bt_list)))) (w_or (t_cmp (c_ne hr.units) (pr_name (pv 2)) (r_dget hr.units (PV.r (pv_name (pv 1))))) (w_or1 (t_cmp (c_ne hr.units) (r_fld (cls:="Watch") FO_many (PV.r (pv_name (pv 0)))) (r_dget hr.units (PV.r (pv_name (pv 1))))))))) (ss_one (s_ret (PV.r (pv_bl)))) (ss_nil)) (ss_cons (s_forL 1001 (asIo_two1 (by decide)) rfl (pv 2) (fun lz=>g_name (i:=3) sc_l_is_so.nd rfl (Or.inl rfl)) (fun lz=>ss_one (s_if (t_w (w_or (t_not (t_val (PV.r (v_isi "tuple" (PV.r (pv_name (pv 3))) (by simp) rfl T.m_isinstance rfl T.m_tuple bt_tuple)))) (w_or (t_not (t_val (r_callD G_l_whole (hr.mono (by decide)) rfl (a_cons (r_ix (PV.r (pv_name (pv 3))) (PV.r (pv_int))) (a_nil))))) (w_or1 (t_not (t_val (r_callD G_l_whole (hr.mono (by decide)) rfl (a_cons (r_ix (PV.r (pv_name (pv 3))) (PV.r (pv_int))) (a_nil))))))))) (ss_one (s_ret (PV.r (pv_bl)))) (ss_nil))) PassesOwn.never) (ss_cons (s_setT (i:=4) sc_l_is_so.nd rfl (Or.inl rfl) (ft_lst2 (ft_callM0 G_w_posts (hr.mono (by decide)) (pv_name (pv 0))) (ft_callM0 G_w_bar (hr.mono (by decide)) (pv_name (pv 0))))) (ss_cons (s_if (t_w (w_or (t_not (t_val (r_callD G_l_wholes (hr.mono (by decide)) rfl (a_cons (r_ix (pr_name (pv 4)) (PV.r (pv_int))) (a_nil))))) (w_or1 (t_cmp (c_ne hr.units) (pr_name (pv 4)) (PFr.r (fr_lst (a_cons (r_dget hr.units (PV.r (pv_name (pv 1)))) (a_cons (r_dget hr.units (PV.r (pv_name (pv 1)))) (a_nil))))))))) (ss_one (s_ret (PV.r (pv_bl)))) (ss_nil)) (ss_cons (s_if (t_w (w_and (t_cmp c_isnt (r_ix (pr_name (pv 4)) (PV.r (pv_int))) (PV.r (pv_non))) (w_and1 (t_not (t_val (r_callD G_l_wholes (hr.mono (by decide)) rfl (a_cons (r_ix (pr_name (pv 4)) (PV.r (pv_int))) (a_nil)))))))) (ss_one (s_ret (PV.r (pv_bl)))) (ss_nil)) (ss_cons (s_apps PassesOwn.never rfl sc_l_is_so.nd rfl (Or.inl rfl) (pv 4) (pv 2) (pv 5) (pv 5)) (ss_cons (@s_set _ _ _ _ _ _ 6 _ _ sc_l_is_so.nd rfl (Or.inl rfl) (PFc.v (fc_lst (ac_cons (PR.clf (r_callM0 G_w_mark (hr.mono (by decide)) (PV.r (pv_name (pv 0))))) (ac_cons (PR.clf (r_callM0 G_w_reach (hr.mono (by decide)) (PV.r (pv_name (pv 0))))) (ac_nil))))) rfl rfl (by first | exact .inl rfl | exact .inr rfl | assumption)) (ss_one (s_ret (r_and (r_callD G_l_wholes (hr.mono (by decide)) rfl (a_cons (PV.r (pv_name (pv 6))) (a_nil))) (r_one (PV.r (v_cmp (c_eq hr.units) (PV.r (pv_name (pv 6))) (PFr.r (fr_lst (a_cons (r_dget hr.units (PV.r (pv_name (pv 1)))) (a_cons (r_callD G_l_far (hr.mono (by decide)) rfl (a_cons (PV.r (pv_name (pv 1))) (a_nil))) (a_nil)))))))))))))))))))
theorem sc_l_is_far:FnScope ["_law_model","_law_number","_law_posts"] ["_law_model","_law_number","_law_posts"] (defScope s_l_is_far):=⟨rfl,rfl,rfl,by decide +kernel,rfl,by decide +kernel,by decide +kernel⟩
theorem nd_l_is_far_0:(["_law_post","_law_model","_law_number"]:List Str).Nodup:=by decide +kernel
theorem ok_l_is_far {f:Addr}{fd:FuncData}(F:Fun K "_law_is_far" ("_law_is_far") s_l_is_far f fd)(T:Txt mg)(G_l_way:DefOk P w K mg base 1 "_law_way" ["_law_model","_law_one","_law_other"] (.cl) F_l_way):FnOk P w K mg base CX0 2 f fd ["_law_model","_law_number","_law_posts"] (spR K (.cl) F_l_is_far):=
 fn_auto (k:=1) ⟨[],.cl⟩ F sc_l_is_far (by decide) B_l_is_far (fun cdv hk A outer s H E hr=>ss_one (s_ret (PV.r (v_cmp (c_eq hr.units) (PFr.r (fr_comp (k:=1) (N:=["_law_post","_law_model","_law_number"]) (ix:=[0,1])  (defScope s_l_is_far) rfl ⟨rfl,rfl,by decide +kernel,by decide +kernel,by decide +kernel,rfl,by decide +kernel,rfl⟩ rfl rfl (ir_list (PV.r (pv_name (pv 2)))) (fun _ _ _ _ _ _=>g_name (i:=0) nd_l_is_far_0 rfl (Or.inl rfl)) (fun _ _ _ _ _ _=>if_one (t_cmp c_le (r_callD G_l_way (hr.mono (by decide)) rfl (a_cons (PV.r (pv_name (pv 1))) (a_cons (PV.r (pv_name (pv 2))) (a_cons (PV.r (pv_name (pv 0))) (a_nil))))) (PV.r (v_mul (PV.r (pv_int)) (r_dget hr.units (PV.r (pv_name (pv 1)))))))) (fun _ _ _ _ _ _=>PV.r (pv_name (pv 0))))) (PFr.r (fr_lst (a_nil)))))))
theorem sc_l_thinned:FnScope ["_law_model","_law_ways","_law_at","_law_left","_law_post"] ["_law_model"] (defScope s_l_thinned):=⟨rfl,rfl,rfl,by decide +kernel,rfl,by decide +kernel,by decide +kernel⟩
theorem nd_l_thinned_0:(["_law_post","_law_model","_law_at"]:List Str).Nodup:=by decide +kernel
theorem ok_l_thinned {f:Addr}{fd:FuncData}(F:Fun K "_law_thinned" "_law_thinned" s_l_thinned f fd)(T:Txt mg)(G_l_is_far:DefOk P w K mg base 2 "_law_is_far" ["_law_model","_law_number","_law_posts"] (.cl) F_l_is_far)(G_l_way:DefOk P w K mg base 1 "_law_way" ["_law_model","_law_one","_law_other"] (.cl) F_l_way):FnOk P w K mg base CX0 3 f fd ["_law_model"] (spDc K ["many","folk","posts","mark","bar"] FR_l_thinned):=
 fn_autoDc (k:=2) (fun l=>⟨[(0,.dc (some l) ["many","folk","posts","mark","bar"])],.cl⟩) F sc_l_thinned (fun _=>rfl) [0] (fun _=>rfl) (by decide) B_l_thinned (fun l cdv hk A outer s H E hr=>ss_consDc (@s_set _ _ _ _ _ _ 1 _ _ sc_l_thinned.nd rfl (Or.inl rfl) (PFc.v (fc_lst (ac_nil))) rfl rfl (by first | exact .inl rfl | exact .inr rfl | assumption)) (ss_consDc (s_for rfl (iv_rng1 rfl T.m_range (a_cons (PV.r (v_callB (b_len) rfl T.m_len bt_len (a_cons (PV.r (v_dgetO hr.units (pv 0))) (a_nil)))) (a_nil))) (g_name (i:=2) sc_l_thinned.nd rfl (Or.inr rfl)) (ss_one (@s_set _ _ _ _ _ _ 1 _ _ sc_l_thinned.nd rfl (Or.inl rfl) (PFc.v (fc_cat (pv_name (pv 1)) (PFc.v (PFr.cf (fr_comp (k:=1) (N:=["_law_post","_law_model","_law_at"]) (ix:=[0,2])  (defScope s_l_thinned) rfl ⟨rfl,rfl,by decide +kernel,by decide +kernel,by decide +kernel,rfl,by decide +kernel,rfl⟩ rfl rfl (ir_list (PFr.r (fr_slice (PV.r (v_dgetO hr.units (pv 0))) (o_none) (o_some (PV.r (pv_name (pv 2))))))) (fun _ _ _ _ _ _=>g_name (i:=0) nd_l_thinned_0 rfl (Or.inl rfl)) (fun _ _ _ _ _ _=>if_nil) (fun _ _ _ _ _ _=>r_callD G_l_way (hr.mono (by decide)) rfl (a_cons (PV.r (pv_name (pv 1))) (a_cons (r_ix (r_dget hr.units (PV.r (pv_name (pv 1)))) (PV.r (pv_name (pv 2)))) (a_cons (PV.r (pv_name (pv 0))) (a_nil)))))))))) rfl rfl (by first | exact .inl rfl | exact .inr rfl | assumption))) PassesOwn.never) (ss_consDc (s_dput hr.units (pv 0) (v_minL rfl rfl T.m_min (PV.r (pv_name (pv 1))))) (ss_consDc (s_dput hr.units (pv 0) (v_dgetO hr.units (pv 0))) (ss_consDc (@s_set _ _ _ _ _ _ 3 _ _ sc_l_thinned.nd rfl (Or.inl rfl) (PFc.v (fc_lst (ac_nil))) rfl rfl (by first | exact .inl rfl | exact .inr rfl | assumption)) (ss_consDc (s_for rfl (iv_list (v_dgetO hr.units (pv 0))) (g_name (i:=4) sc_l_thinned.nd rfl (Or.inl rfl)) (ss_one (s_if (t_val (r_callD G_l_is_far (hr.mono (by decide)) rfl (a_cons (pr_name (pv 0)) (a_cons (PV.r (pv_name (pv 4))) (a_cons (PV.r (pv_name (pv 3))) (a_nil)))))) (ss_one (@s_set _ _ _ _ _ _ 3 _ _ sc_l_thinned.nd rfl (Or.inl rfl) (PFc.v (fc_cat (pv_name (pv 3)) (PFc.v (fc_lst (ac_cons (pv_name (pv 4)) (ac_nil)))))) rfl rfl (by first | exact .inl rfl | exact .inr rfl | assumption))) (ss_nil))) PassesOwn.never) (ss_consDc (s_dput hr.units (pv 0) (pv_name (pv 3))) (ss_endDc))))))))
theorem sc_l_come:FnScope ["_law_model","_law_place_here","_law_number"] ["_law_model","_law_place_here"] (defScope s_l_come):=⟨rfl,rfl,rfl,by decide +kernel,rfl,by decide +kernel,by decide +kernel⟩
theorem ok_l_come {f:Addr}{fd:FuncData}(F:Fun K "_law_come" "_law_come" s_l_come f fd)(T:Txt mg)(G_l_is_far:DefOk P w K mg base 2 "_law_is_far" ["_law_model","_law_number","_law_posts"] (.cl) F_l_is_far)(G_l_thinned:DefDc P w K mg base 3 "_law_thinned" ["_law_model"] ["many","folk","posts","mark","bar"] FR_l_thinned):FnOk P w K mg base CX0 4 f fd ["_law_model","_law_place_here"] (spDc K ["many","folk","posts","mark","bar"] FR_l_come):=
 fn_autoDc (k:=3) (fun l=>⟨[(0,.dc (some l) ["many","folk","posts","mark","bar"])],.cl⟩) F sc_l_come (fun _=>rfl) [0] (fun _=>rfl) (by decide) B_l_come (fun l cdv hk A outer s H E hr=>ss_consDc (@s_set _ _ _ _ _ _ 2 _ _ sc_l_come.nd rfl (Or.inl rfl) (v_callB (b_len) rfl T.m_len bt_len (a_cons (PV.r (v_dgetO hr.units (pv 0))) (a_nil))) rfl rfl (by first | exact .inl rfl | exact .inr rfl | assumption)) (ss_consDc (s_dput hr.units (pv 0) (PFc.v (fc_cat (v_dgetO hr.units (pv 0)) (PFc.v (fc_lst (ac_cons (pv_name (pv 1)) (ac_nil))))))) (ss_consDc (s_if (t_val (r_callD G_l_is_far (hr.mono (by decide)) rfl (a_cons (pr_name (pv 0)) (a_cons (PV.r (pv_name (pv 2))) (a_cons (PV.r (v_dgetO hr.units (pv 0))) (a_nil)))))) (ss_one (s_dput hr.units (pv 0) (PFc.v (fc_cat (v_dgetO hr.units (pv 0)) (PFc.v (fc_lst (ac_cons (pv_name (pv 2)) (ac_nil)))))))) (ss_nil)) (ss_consDc (s_if (t_cmp c_gt (PV.r (v_callB (b_len) rfl T.m_len bt_len (a_cons (PV.r (v_dgetO hr.units (pv 0))) (a_nil)))) (PV.r (v_dgetO hr.units (pv 0)))) (ss_one (s_callDst G_l_thinned (hr.mono (by decide)) rfl (pv 0))) (ss_nil)) (ss_retDc (pv_name (pv 2)))))))
theorem sc_law:FnScope ["_law_script","_law_purse","_law_watches","_law_models","_law_at","_law_digit","_law_many","_law_turn","_law_place_here","_law_number"] ["_law_script"] (defScope s_law):=⟨rfl,rfl,rfl,by decide +kernel,rfl,by decide +kernel,by decide +kernel⟩
theorem ok_law {f:Addr}{fd:FuncData}(F:Fun K "law" ("law") s_law f fd)(T:Txt mg)(G_l_digits:DefOk P w K mg base 1 "_law_digits" ["_law_script","_law_at","_law_parts"] (.lst .cl) F_l_digits)(G_l_place:DefI P w K mg base 1 "_law_place" ["_law_purse"] 0 (.cl) FI_l_place)(G_w_come:DefRc P w K mg base 5 "Watch" "come" ["self","x","y"] ["many","places","chosen","last_mark","last_bar"] [.cl,.lst .cl,.lst .cl,.cl,.cl] FR_w_come)(G_l_refused:DefOk P w K mg base 4 "_law_refused" ["_law_many"] (.cl) F_l_refused)(G_w_init:DefW P w K mg base 2 "Watch" ["self","many"] ["many","places","chosen","last_mark","last_bar"] [.cl,.lst .cl,.lst .cl,.cl,.cl] FR_w_init)(G_l_is_so:DefOk P w K mg base 5 "_law_is_so" ["_law_watch","_law_model"] (.cl) F_l_is_so)(G_l_whole:DefOk P w K mg base 1 "_law_whole" ["_law_found"] (.cl) F_l_whole)(G_l_come:DefDc P w K mg base 4 "_law_come" ["_law_model","_law_place_here"] ["many","folk","posts","mark","bar"] FR_l_come):FnOk P w K mg base CX0 6 f fd ["_law_script"] (spR K (.cl) F_law):=
 fn_auto (k:=5) ⟨[(1,.lst .cl),(2,.lst (.rc none "Watch" ["many","places","chosen","last_mark","last_bar"] [.cl,.lst .cl,.lst .cl,.cl,.cl])),(3,.lst (.dc none ["many","folk","posts","mark","bar"]))],.cl⟩ F sc_law (by decide) B_law (fun cdv hk A outer s H E hr=>ss_cons (s_setT (i:=1) sc_law.nd rfl (Or.inl rfl) (ft_callD G_l_digits (hr.mono (by decide)) rfl (ac_cons (pv_name (pv 0)) (ac_cons (pv_int) (ac_cons (pv_int) (ac_nil)))))) (ss_cons (s_setT (i:=2) sc_law.nd rfl (Or.inl rfl) (ft_nil)) (ss_cons (s_setT (i:=3) sc_law.nd rfl (Or.inl rfl) (ft_nil)) (ss_cons (s_for rfl (iv_rng1 rfl T.m_range (a_cons (PV.r (pv_int)) (a_nil))) (g_name (i:=4) sc_law.nd rfl (Or.inl rfl)) (ss_cons (s_setX (i:=5) sc_law.nd rfl (Or.inl rfl) (x_pop (pv 1))) (ss_cons (@s_set _ _ _ _ _ _ 6 _ _ sc_law.nd rfl (Or.inl rfl) (PR.clf (r_ix (PFr.r (fr_lst (a_cons (PV.r (v_add (PV.r (pv_int)) (PV.r (v_mod (PV.r (v_fdiv (PV.r (pv_name (pv 5))) (PV.r (pv_int)))) (PV.r (pv_int)))))) (a_cons (PV.r (v_add (PV.r (v_pow (PV.r (pv_int)) (PV.r (pv_int)))) (PV.r (pv_name (pv 5))))) (a_nil))))) (PV.r (v_callT (b_int) rfl T.m_int bt_int (a_cons (PV.r (v_cmp (c_eq hr.units) (PV.r (v_mod (PV.r (pv_name (pv 5))) (PV.r (pv_int)))) (PV.r (pv_int)))) (a_nil)))))) rfl rfl (by first | exact .inl rfl | exact .inr rfl | assumption)) (ss_cons (s_appendT (pv 2) (ft_makeW G_w_init (hr.mono (by decide)) rfl (ac_cons (pv_name (pv 6)) (ac_nil)))) (ss_one (s_appendT (pv 3) (ft_disp (dv_cons (pv_name (pv 6)) (dv_cons (PFc.v (fc_lst (ac_nil))) (dv_cons (PFc.v (fc_lst (ac_nil))) (dv_cons (pv_int) (dv_cons (pv_non) (dv_nil)))))))))))) PassesOwn.never) (ss_cons (s_forX rfl rfl T.m_range (x_modL (x_pop (pv 1)) (PV.r (pv_int))) (g_name (i:=7) sc_law.nd rfl (Or.inl rfl)) (ss_cons (s_setX (i:=4) sc_law.nd rfl (Or.inl rfl) (x_int rfl T.m_int (x_cmpL (c_eq hr.units) (x_modL (x_pop (pv 1)) (PV.r (pv_int))) (PV.r (pv_int))))) (ss_cons (s_setX (i:=8) sc_law.nd rfl (Or.inl rfl) (x_callI0 G_l_place (hr.mono (by decide)) rfl (pv 1))) (ss_cons (s_setMix (n:=9) (i:=2) sc_law.nd rfl (Or.inl rfl) G_w_come (hr.mono (by decide)) (pv 2) (PV.r (pv_name (pv 4))) (ac_cons (PR.clf (r_ix (PV.r (pv_name (pv 8))) (PV.r (pv_int)))) (ac_cons (PR.clf (r_ix (PV.r (pv_name (pv 8))) (PV.r (pv_int)))) (ac_nil)))) (ss_cons (s_ifX (w_orX2 (t_not (t_val (r_callD G_l_whole (hr.mono (by decide)) rfl (a_cons (PV.r (pv_name (pv 9))) (a_nil))))) (t_cmpXR (c_ne hr.units) (pv_name (pv 9)) (x_callDix G_l_come (hr.mono (by decide)) rfl (pv 3) (PV.r (pv_name (pv 4))) (ac_cons (pv_name (pv 8)) (ac_nil))))) (ss_one (s_ret (PV.r (pv_bl)))) (ss_nil)) (ss_one (s_if (t_not (t_val (r_callD G_l_is_so (hr.mono (by decide)) rfl (a_cons (r_ix (pr_name (pv 2)) (PV.r (pv_name (pv 4)))) (a_cons (r_ix (pr_name (pv 3)) (PV.r (pv_name (pv 4)))) (a_nil)))))) (ss_one (s_ret (PV.r (pv_bl)))) (ss_nil))))))) PassesOwn.never) (ss_cons (s_for rfl (iv_rng1 rfl T.m_range (a_cons (PV.r (pv_int)) (a_nil))) (g_name (i:=4) sc_law.nd rfl (Or.inl rfl)) (ss_one (s_if (t_w (w_or (t_not (t_val (r_callD G_l_is_so (hr.mono (by decide)) rfl (a_cons (r_ix (pr_name (pv 2)) (PV.r (pv_name (pv 4)))) (a_cons (r_ix (pr_name (pv 3)) (PV.r (pv_name (pv 4)))) (a_nil)))))) (w_or1 (t_not (t_val (r_callD G_l_is_so (hr.mono (by decide)) rfl (a_cons (r_ix (pr_name (pv 2)) (PV.r (pv_name (pv 4)))) (a_cons (r_ix (pr_name (pv 3)) (PV.r (pv_name (pv 4)))) (a_nil))))))))) (ss_one (s_ret (PV.r (pv_bl)))) (ss_nil))) PassesOwn.never) (ss_one (s_ret (r_and (r_callD G_l_refused (hr.mono (by decide)) rfl (a_cons (PV.r (pv_int)) (a_nil))) (r_and (r_callD G_l_refused (hr.mono (by decide)) rfl (a_cons (PV.r (v_neg (PV.r (pv_int)))) (a_nil))) (r_one (r_callD G_l_refused (hr.mono (by decide)) rfl (a_cons (PV.r (v_neg (PV.r (v_pow (PV.r (pv_int)) (PV.r (pv_int)))))) (a_nil))))))))))))))
end
theorem all_mk {l:PySem.W.OpenLaw}{w:World}{K:PySem.W.Frag}{h:Heap}{mg:Str->Option Value}{fa:Addr}(X:K.In h)(G:h.Ns mainGlobals mg)(hfa:mg "law"=some (.ref fa))
   (e_NoMany:ExcAt K "NoMany")
   (x_all:(isCls K "PostError"&&(exAll K exNames (clsAt K "PostError")&&((["NoRing","NoReach","NoPosts","NoMany","NoFolk","NoWord","NoLine","NoWay","NoTable","NoPost","NoName","NoText","NoThing"]:List Str).all (isTs K exNames)&&(isVs K exNames&&true))))=true)
   (fw_many:FldW K "Watch" "many")
   (fw_places:FldW K "Watch" "places")
   (fw_chosen:FldW K "Watch" "chosen")
   (fw_last_mark:FldW K "Watch" "last_mark")
   (fw_last_bar:FldW K "Watch" "last_bar")
   (d0:FnAt K "_law_digits" s_l_digits)
   (d1:FnAt K "_law_place" s_l_place)
   (d2:FnAt K "side_between" s_p_side_between)
   (m3:MethAt K "Watch" "way_between" s_w_way_between)
   (m4:MethAt K "Watch" "is_far" s_w_is_far)
   (m5:MethAt K "Watch" "least_way" s_w_least_way)
   (m6:MethAt K "Watch" "raise_mark" s_w_raise_mark)
   (m7:MethAt K "Watch" "come" s_w_come)
   (d8:FnAt K "check_many" s_p_check_many)
   (w9:ClsW K "Watch" s_w_xinit)
   (d10:FnAt K "_law_classes" s_l_classes)
   (d11:FnAt K "_law_which" s_l_which)
   (d12:FnAt K "_law_refused" s_l_refused)
   (w13:ClsW K "Watch" s_w_init)
   (m14:MethAt K "Watch" "folk" s_w_folk)
   (m15:MethAt K "Watch" "posts" s_w_posts)
   (m16:MethAt K "Watch" "bar" s_w_bar)
   (m17:MethAt K "Watch" "mark" s_w_mark)
   (m18:MethAt K "Watch" "way_to_post" s_w_way_to_post)
   (m19:MethAt K "Watch" "reach" s_w_reach)
   (d20:FnAt K "_law_whole" s_l_whole)
   (d21:FnAt K "_law_wholes" s_l_wholes)
   (d22:FnAt K "_law_way" s_l_way)
   (d23:FnAt K "_law_far" s_l_far)
   (d24:FnAt K "_law_is_so" s_l_is_so)
   (d25:FnAt K "_law_is_far" s_l_is_far)
   (d26:FnAt K "_law_thinned" s_l_thinned)
   (d27:FnAt K "_law_come" s_l_come)
   (d28:FnAt K "law" s_law)
   (z_all:noNames K ["ValueError","abs","all","bool","enumerate","int","isinstance","len","list","max","min","range","reversed","sum","tuple"]=true)
  :∃ fd:FuncData,(∀ (s:Shared) (v:Value),BindsTo s fd ⟨[v],[]⟩ [("_law_script",v)])∧∀ base:Heap,K.In base->base.Ns mainGlobals mg->FnOk l.prog w K mg base CX0 6 fa fd ["_law_script"] (spR K .cl F_law):=by
 have T:Txt mg:=⟨noNames_get X G z_all 0 rfl,noNames_get X G z_all 1 rfl,noNames_get X G z_all 2 rfl,noNames_get X G z_all 3 rfl,noNames_get X G z_all 4 rfl,noNames_get X G z_all 5 rfl,noNames_get X G z_all 6 rfl,noNames_get X G z_all 7 rfl,noNames_get X G z_all 8 rfl,noNames_get X G z_all 9 rfl,noNames_get X G z_all 10 rfl,noNames_get X G z_all 11 rfl,noNames_get X G z_all 12 rfl,noNames_get X G z_all 13 rfl,noNames_get X G z_all 14 rfl⟩
 obtain⟨c_PostError,x_all⟩:=and2 x_all
 obtain⟨q_PostError,x_all⟩:=and2 x_all
 obtain⟨i_all,x_all⟩:=and2 x_all
 obtain⟨v_all,x_all⟩:=and2 x_all
 have X_NoMany:XCD K mg "NoMany" _:=xcd_of X G e_NoMany
 have P_PostError:=caught_of X G c_PostError q_PostError
 have I_NoRing:IsT K mg exNames "NoRing" _:=isT_of X G i_all 0 rfl
 have I_NoReach:IsT K mg exNames "NoReach" _:=isT_of X G i_all 1 rfl
 have I_NoPosts:IsT K mg exNames "NoPosts" _:=isT_of X G i_all 2 rfl
 have I_NoMany:IsT K mg exNames "NoMany" _:=isT_of X G i_all 3 rfl
 have I_NoFolk:IsT K mg exNames "NoFolk" _:=isT_of X G i_all 4 rfl
 have I_NoWord:IsT K mg exNames "NoWord" _:=isT_of X G i_all 5 rfl
 have I_NoLine:IsT K mg exNames "NoLine" _:=isT_of X G i_all 6 rfl
 have I_NoWay:IsT K mg exNames "NoWay" _:=isT_of X G i_all 7 rfl
 have I_NoTable:IsT K mg exNames "NoTable" _:=isT_of X G i_all 8 rfl
 have I_NoPost:IsT K mg exNames "NoPost" _:=isT_of X G i_all 9 rfl
 have I_NoName:IsT K mg exNames "NoName" _:=isT_of X G i_all 10 rfl
 have I_NoText:IsT K mg exNames "NoText" _:=isT_of X G i_all 11 rfl
 have I_NoThing:IsT K mg exNames "NoThing" _:=isT_of X G i_all 12 rfl
 have I_ValueError:IsV K exNames:=isV_of v_all
 have FO_many:=fw_many.ok
 have FO_places:=fw_places.ok
 have FO_chosen:=fw_chosen.ok
 have FO_last_mark:=fw_last_mark.ok
 have FO_last_bar:=fw_last_bar.ok
 have H_l_digits:∀ base:Heap,DefOk l.prog w K mg base 1 "_law_digits" ["_law_script","_law_at","_law_parts"] (.lst .cl) F_l_digits:=fun base=>d0.ok X G (fun _ _ _ _ _ _ us hl=>len3 (P:=fun us=>bindArgs _ ⟨us,[]⟩=pure (List.zip _ us)) hl fun _ _ _=>rfl) fun f fd a F=>ok_l_digits F T 
 have H_l_place:∀ base:Heap,DefI l.prog w K mg base 1 "_law_place" ["_law_purse"] 0 (.cl) FI_l_place:=fun base=>d1.okI X G (fun _ _ _ _ _ _ us hl=>len1 (P:=fun us=>bindArgs _ ⟨us,[]⟩=pure (List.zip _ us)) hl fun _=>rfl) fun f fd a F=>ok_l_place F T 
 have H_p_side_between:∀ base:Heap,DefOk l.prog w K mg base 1 "side_between" ["one","other"] (.cl) F_p_side_between:=fun base=>d2.ok X G (fun _ _ _ _ _ _ us hl=>len2 (P:=fun us=>bindArgs _ ⟨us,[]⟩=pure (List.zip _ us)) hl fun _ _=>rfl) fun f fd a F=>ok_p_side_between F T 
 have H_w_way_between:∀ base:Heap,DefM l.prog w K mg base 2 "Watch" "way_between" ["self","one","other"] (.cl) F_w_way_between:=fun base=>m3.okM (fun _ _ _ _ _ _ us hl=>len3 (P:=fun us=>bindArgs _ ⟨us,[]⟩=pure (List.zip _ us)) hl fun _ _ _=>rfl) fun f fd F=>ok_w_way_between F T (H_p_side_between base) FO_places
 have H_w_is_far:∀ base:Heap,DefM l.prog w K mg base 3 "Watch" "is_far" ["self","number","others"] (.cl) F_w_is_far:=fun base=>m4.okM (fun _ _ _ _ _ _ us hl=>len3 (P:=fun us=>bindArgs _ ⟨us,[]⟩=pure (List.zip _ us)) hl fun _ _ _=>rfl) fun f fd F=>ok_w_is_far F T (H_w_way_between base) FO_last_mark
 have H_w_least_way:∀ base:Heap,DefM l.prog w K mg base 3 "Watch" "least_way" ["self"] (.cl) F_w_least_way:=fun base=>m5.okM (fun _ _ _ _ _ _ us hl=>len1 (P:=fun us=>bindArgs _ ⟨us,[]⟩=pure (List.zip _ us)) hl fun _=>rfl) fun f fd F=>ok_w_least_way F T (H_w_way_between base) FO_chosen
 have H_w_raise_mark:∀ base:Heap,DefRc l.prog w K mg base 4 "Watch" "raise_mark" ["self"] ["many","places","chosen","last_mark","last_bar"] [.cl,.lst .cl,.lst .cl,.cl,.cl] FR_w_raise_mark:=fun base=>m6.okR (fun _ _ _ _ _ _ us hl=>len1 (P:=fun us=>bindArgs _ ⟨us,[]⟩=pure (List.zip _ us)) hl fun _=>rfl) fun f fd F=>ok_w_raise_mark F T (H_w_least_way base) (H_w_is_far base) FO_chosen FO_last_bar FO_last_mark
 have H_w_come:∀ base:Heap,DefRc l.prog w K mg base 5 "Watch" "come" ["self","x","y"] ["many","places","chosen","last_mark","last_bar"] [.cl,.lst .cl,.lst .cl,.cl,.cl] FR_w_come:=fun base=>m7.okR (fun _ _ _ _ _ _ us hl=>len3 (P:=fun us=>bindArgs _ ⟨us,[]⟩=pure (List.zip _ us)) hl fun _ _ _=>rfl) fun f fd F=>ok_w_come F T (H_w_is_far base) (H_w_raise_mark base) FO_chosen FO_many FO_places
 have H_p_check_many:∀ base:Heap,DefX l.prog w K mg base 1 "check_many" ["many"] (.cl) FX_p_check_many:=fun base=>d8.okX X G (fun _ _ _ _ _ _ us hl=>len1 (P:=fun us=>bindArgs _ ⟨us,[]⟩=pure (List.zip _ us)) hl fun _=>rfl) fun f fd a F=>ok_p_check_many F T  X_NoMany
 have H_w_xinit:∀ base:Heap,DefNX l.prog w K mg base 2 "Watch" ["self","many"] "many" "places" FN_w_xinit:=fun base=>w9.okX X G (fun _ _ _ _ _ _ us hl=>len2 (P:=fun us=>bindArgs _ ⟨us,[]⟩=pure (List.zip _ us)) hl fun _ _=>rfl) fun f fd F=>ok_w_xinit F T (H_p_check_many base) FO_many FO_places
 have H_l_classes:∀ base:Heap,DefOk l.prog w K mg base 1 "_law_classes" ["_law_kept"] (.cl) F_l_classes:=fun base=>d10.ok X G (fun _ _ _ _ _ _ us hl=>len1 (P:=fun us=>bindArgs _ ⟨us,[]⟩=pure (List.zip _ us)) hl fun _=>rfl) fun f fd a F=>ok_l_classes F T  I_NoRing I_NoReach I_NoPosts I_NoMany I_NoFolk I_NoWord I_NoLine I_NoWay I_NoTable I_NoPost I_NoName I_NoText I_NoThing
 have H_l_which:∀ base:Heap,DefOk l.prog w K mg base 2 "_law_which" ["_law_kept"] (.cl) F_l_which:=fun base=>d11.ok X G (fun _ _ _ _ _ _ us hl=>len1 (P:=fun us=>bindArgs _ ⟨us,[]⟩=pure (List.zip _ us)) hl fun _=>rfl) fun f fd a F=>ok_l_which F T (H_l_classes base) I_ValueError
 have H_l_refused:∀ base:Heap,DefOk l.prog w K mg base 4 "_law_refused" ["_law_many"] (.cl) F_l_refused:=fun base=>d12.ok X G (fun _ _ _ _ _ _ us hl=>len1 (P:=fun us=>bindArgs _ ⟨us,[]⟩=pure (List.zip _ us)) hl fun _=>rfl) fun f fd a F=>ok_l_refused F T (H_w_xinit base) (H_l_which base) P_PostError
 have H_w_init:∀ base:Heap,DefW l.prog w K mg base 2 "Watch" ["self","many"] ["many","places","chosen","last_mark","last_bar"] [.cl,.lst .cl,.lst .cl,.cl,.cl] FR_w_init:=fun base=>w13.ok X G (fun _ _ _ _ _ _ us hl=>len2 (P:=fun us=>bindArgs _ ⟨us,[]⟩=pure (List.zip _ us)) hl fun _ _=>rfl) fun f fd F=>ok_w_init F T (H_p_check_many base) FO_last_bar FO_last_mark FO_chosen FO_places FO_many
 have H_w_folk:∀ base:Heap,DefM l.prog w K mg base 1 "Watch" "folk" ["self"] (.lst .cl) F_w_folk:=fun base=>m14.okM (fun _ _ _ _ _ _ us hl=>len1 (P:=fun us=>bindArgs _ ⟨us,[]⟩=pure (List.zip _ us)) hl fun _=>rfl) fun f fd F=>ok_w_folk F T  FO_places
 have H_w_posts:∀ base:Heap,DefM l.prog w K mg base 1 "Watch" "posts" ["self"] (.lst .cl) F_w_posts:=fun base=>m15.okM (fun _ _ _ _ _ _ us hl=>len1 (P:=fun us=>bindArgs _ ⟨us,[]⟩=pure (List.zip _ us)) hl fun _=>rfl) fun f fd F=>ok_w_posts F T  FO_chosen
 have H_w_bar:∀ base:Heap,DefM l.prog w K mg base 1 "Watch" "bar" ["self"] (.lst .cl) F_w_bar:=fun base=>m16.okM (fun _ _ _ _ _ _ us hl=>len1 (P:=fun us=>bindArgs _ ⟨us,[]⟩=pure (List.zip _ us)) hl fun _=>rfl) fun f fd F=>ok_w_bar F T  FO_last_bar
 have H_w_mark:∀ base:Heap,DefM l.prog w K mg base 1 "Watch" "mark" ["self"] (.cl) F_w_mark:=fun base=>m17.okM (fun _ _ _ _ _ _ us hl=>len1 (P:=fun us=>bindArgs _ ⟨us,[]⟩=pure (List.zip _ us)) hl fun _=>rfl) fun f fd F=>ok_w_mark F T  FO_last_mark
 have H_w_way_to_post:∀ base:Heap,DefM l.prog w K mg base 3 "Watch" "way_to_post" ["self","number"] (.cl) F_w_way_to_post:=fun base=>m18.okM (fun _ _ _ _ _ _ us hl=>len2 (P:=fun us=>bindArgs _ ⟨us,[]⟩=pure (List.zip _ us)) hl fun _ _=>rfl) fun f fd F=>ok_w_way_to_post F T (H_w_way_between base) FO_chosen
 have H_w_reach:∀ base:Heap,DefM l.prog w K mg base 4 "Watch" "reach" ["self"] (.cl) F_w_reach:=fun base=>m19.okM (fun _ _ _ _ _ _ us hl=>len1 (P:=fun us=>bindArgs _ ⟨us,[]⟩=pure (List.zip _ us)) hl fun _=>rfl) fun f fd F=>ok_w_reach F T (H_w_way_to_post base) FO_places
 have H_l_whole:∀ base:Heap,DefOk l.prog w K mg base 1 "_law_whole" ["_law_found"] (.cl) F_l_whole:=fun base=>d20.ok X G (fun _ _ _ _ _ _ us hl=>len1 (P:=fun us=>bindArgs _ ⟨us,[]⟩=pure (List.zip _ us)) hl fun _=>rfl) fun f fd a F=>ok_l_whole F T 
 have H_l_wholes:∀ base:Heap,DefOk l.prog w K mg base 2 "_law_wholes" ["_law_row"] (.cl) F_l_wholes:=fun base=>d21.ok X G (fun _ _ _ _ _ _ us hl=>len1 (P:=fun us=>bindArgs _ ⟨us,[]⟩=pure (List.zip _ us)) hl fun _=>rfl) fun f fd a F=>ok_l_wholes F T (H_l_whole base)
 have H_l_way:∀ base:Heap,DefOk l.prog w K mg base 1 "_law_way" ["_law_model","_law_one","_law_other"] (.cl) F_l_way:=fun base=>d22.ok X G (fun _ _ _ _ _ _ us hl=>len3 (P:=fun us=>bindArgs _ ⟨us,[]⟩=pure (List.zip _ us)) hl fun _ _ _=>rfl) fun f fd a F=>ok_l_way F T 
 have H_l_far:∀ base:Heap,DefOk l.prog w K mg base 2 "_law_far" ["_law_model"] (.cl) F_l_far:=fun base=>d23.ok X G (fun _ _ _ _ _ _ us hl=>len1 (P:=fun us=>bindArgs _ ⟨us,[]⟩=pure (List.zip _ us)) hl fun _=>rfl) fun f fd a F=>ok_l_far F T (H_l_way base)
 have H_l_is_so:∀ base:Heap,DefOk l.prog w K mg base 5 "_law_is_so" ["_law_watch","_law_model"] (.cl) F_l_is_so:=fun base=>d24.ok X G (fun _ _ _ _ _ _ us hl=>len2 (P:=fun us=>bindArgs _ ⟨us,[]⟩=pure (List.zip _ us)) hl fun _ _=>rfl) fun f fd a F=>ok_l_is_so F T (H_w_folk base) (H_w_posts base) (H_w_bar base) (H_w_mark base) (H_w_reach base) (H_l_wholes base) (H_l_whole base) (H_l_far base) FO_many
 have H_l_is_far:∀ base:Heap,DefOk l.prog w K mg base 2 "_law_is_far" ["_law_model","_law_number","_law_posts"] (.cl) F_l_is_far:=fun base=>d25.ok X G (fun _ _ _ _ _ _ us hl=>len3 (P:=fun us=>bindArgs _ ⟨us,[]⟩=pure (List.zip _ us)) hl fun _ _ _=>rfl) fun f fd a F=>ok_l_is_far F T (H_l_way base)
 have H_l_thinned:∀ base:Heap,DefDc l.prog w K mg base 3 "_law_thinned" ["_law_model"] ["many","folk","posts","mark","bar"] FR_l_thinned:=fun base=>d26.okDc X G (fun _ _ _ _ _ _ us hl=>len1 (P:=fun us=>bindArgs _ ⟨us,[]⟩=pure (List.zip _ us)) hl fun _=>rfl) fun f fd a F=>ok_l_thinned F T (H_l_is_far base) (H_l_way base)
 have H_l_come:∀ base:Heap,DefDc l.prog w K mg base 4 "_law_come" ["_law_model","_law_place_here"] ["many","folk","posts","mark","bar"] FR_l_come:=fun base=>d27.okDc X G (fun _ _ _ _ _ _ us hl=>len2 (P:=fun us=>bindArgs _ ⟨us,[]⟩=pure (List.zip _ us)) hl fun _ _=>rfl) fun f fd a F=>ok_l_come F T (H_l_is_far base) (H_l_thinned base)
 exact d28.law X G hfa (fun _ _ _ _ _ _ s v=>.of_eq rfl) fun base f fd F=>ok_law F T (H_l_digits base) (H_l_place base) (H_w_come base) (H_l_refused base) (H_w_init base) (H_l_is_so base) (H_l_whole base) (H_l_come base)
theorem lam0:lamNames PySem.Challenge.rw_nearposts_k50_folk_that_come.prog=([]:List Str):=by decide +kernel
theorem walk {l:PySem.W.OpenLaw}{q:Program}{loose:List Str}{XP:(Str->Option Value)->Heap->Prop}{YP:World->Heap->Prop}{d:DefRec}{K:Params->PySem.W.Frag}(hn:l.most=some 63)(hdf:d.params.defaults=[])(hq:∀ y∈lamNames l.prog,((recsOf q).find? fun e=>e.name==y).isSome=true)(hTK:∀ (w:World) (y:Str) (c p:Addr),y∈lamNames l.prog->PySem.W.tabIn (K w.params) y=some (c,p)->(K w.params).lookup p=none)
  (hY:∀ (w:World) (h:Heap),YP w h->(K w.params).In h)
  (F:∀ (w:World) (mg:Str->Option Value) (fa:Addr) (h:Heap),(K w.params).In h->h.Ns mainGlobals mg->mg d.name=some (.ref fa) ->
   ∃ fd:FuncData,(∀ (s:Shared) (u:Value),BindsTo s fd ⟨[u],[]⟩ [("_law_script",u)])∧∀ base:Heap,(K w.params).In base->base.Ns mainGlobals mg->FnOk l.prog w (K w.params) mg base CX0 6 fa fd ["_law_script"] (spR (K w.params) .cl F_law)) :
  PySem.W.WalkO q loose XP YP l.row.toRowW d [] (fun f vs=>PySem.call f vs):=
 L2.walk_ofT (n:=63) (k:=6) (x:="_law_script") (CX:=fun _=>CX0) (sp:=fun w=>spR (K w.params) .cl F_law) hn (by decide) hdf ⟨rfl,by decide,by decide,rfl⟩ hY hq hTK F (fun _ H a ns hl hS=>⟨fun _=>False,[.list (ns.map .int)],.bool true,fun _ z=>z.elim,by rw[del_false];exact .cons (.lst hS (DenL.ints ns)) .nil,main ns hl,fun v as H' _ _ D=>den_bl D.den⟩) fun _ _ _ _ _ z=>z
end NW
open PySem PySem.W PyProof.Rows
theorem PySem.W.Fast.tw8685002423256760517:True:=trivial
theorem PySem.W.Fast.tw15723648972046809159:True:=trivial
theorem PySem.W.Fast.tw3124131117790621588:True:=trivial
theorem PySem.W.Fast.tw247355864679581235:True:=trivial
theorem PySem.W.Fast.tw11848389863102164592:True:=trivial
theorem PySem.W.Fast.tw3459063508022975590:True:=trivial
theorem PySem.W.Fast.tw2050347491586894720:True:=trivial
theorem PySem.W.Fast.tw13616661555536033705:True:=trivial
theorem PySem.W.Fast.tw10843360825457613380:True:=trivial
theorem PySem.W.Fast.tw3680826467674825041:True:=trivial
theorem PySem.W.Fast.tw4139019901710208351:True:=trivial
theorem PySem.W.Fast.tw17275754492018400125:True:=trivial
theorem PySem.W.Fast.tw16226717221792659797:True:=trivial
theorem PySem.W.Fast.tw17241113470038831013:True:=trivial
theorem PySem.W.Fast.tw2860325183315065783:True:=trivial
theorem PySem.W.Fast.tw18075562325330855851:True:=trivial
theorem PySem.W.Fast.tw13883844582050128720:True:=trivial
theorem PySem.W.Fast.tw4811064358515787146:True:=trivial
theorem PySem.W.Fast.tw15132479162771842100:True:=trivial
theorem PySem.W.Fast.tw14681707224813300587:True:=trivial
theorem PySem.W.Fast.tw2149759857458378537:True:=trivial
set_option maxRecDepth 100000 in
set_option maxHeartbeats 0 in
theorem PySem.Challenge.cw_nearposts_k50_folk_that_come_holds : PySem.Challenge.rw_nearposts_k50_folk_that_come.Holds := by
  w_on; o_law; k_head; (case hw=>w_witness2)
  k_fill
  refine NW.walk (l:=PySem.Challenge.rw_nearposts_k50_folk_that_come) rfl rfl ?Q ?K (fun w h Y=>PySem.W.kIn_of Y) ?F
  case Q=>exact L2.lam_q (by rw [NW.lam0]; kernel_rfl)
  case K=>exact fun w=>L2.lam_k (by rw [NW.lam0]; kernel_rfl)
  case F=>
    intro w mg fa h KX G hmg
    refine' NW.all_mk KX G hmg ?e_NoMany ?x_all ?fw_many ?fw_places ?fw_chosen ?fw_last_mark ?fw_last_bar ?d0 ?d1 ?d2 ?m3 ?m4 ?m5 ?m6 ?m7 ?d8 ?w9 ?d10 ?d11 ?d12 ?w13 ?m14 ?m15 ?m16 ?m17 ?m18 ?m19 ?d20 ?d21 ?d22 ?d23 ?d24 ?d25 ?d26 ?d27 ?d28 ?z_all
    (case e_NoMany=>refine' L2.ExcAt.mk _ ?en (L2.XNo.of ?el ?ee ?et ?eo ?ei); (case en=>k_is); (case el=>k_is); (case ee=>rfl); (case et=>kernel_rfl); (case eo=>kernel_rfl); (case ei=>kernel_rfl))
    (case x_all=>kernel_rfl)
    (case fw_many=>refine' L2.FldW.mk 332 ?qa ?q5 ?q6 ?q7 ?q8 ?q9; (case qa=>k_is); (case q5=>kernel_rfl); (case q6=>kernel_rfl); (case q7=>kernel_rfl); (case q8=>k_is); (case q9=>k_is))
    (case fw_places=>refine' L2.FldW.mk 332 ?qa ?q5 ?q6 ?q7 ?q8 ?q9; (case qa=>k_is); (case q5=>kernel_rfl); (case q6=>kernel_rfl); (case q7=>kernel_rfl); (case q8=>k_is); (case q9=>k_is))
    (case fw_chosen=>refine' L2.FldW.mk 332 ?qa ?q5 ?q6 ?q7 ?q8 ?q9; (case qa=>k_is); (case q5=>kernel_rfl); (case q6=>kernel_rfl); (case q7=>kernel_rfl); (case q8=>k_is); (case q9=>k_is))
    (case fw_last_mark=>refine' L2.FldW.mk 332 ?qa ?q5 ?q6 ?q7 ?q8 ?q9; (case qa=>k_is); (case q5=>kernel_rfl); (case q6=>kernel_rfl); (case q7=>kernel_rfl); (case q8=>k_is); (case q9=>k_is))
    (case fw_last_bar=>refine' L2.FldW.mk 332 ?qa ?q5 ?q6 ?q7 ?q8 ?q9; (case qa=>k_is); (case q5=>kernel_rfl); (case q6=>kernel_rfl); (case q7=>kernel_rfl); (case q8=>k_is); (case q9=>k_is))
    (case d0=>refine' L2.FnAt.mk _ _ ?a (L2.fun_mk ?l ?c ?k); (case a=>k_is); (case l=>k_is); (case c=>k_is); (case k=>k_is))
    (case d1=>refine' L2.FnAt.mk _ _ ?a (L2.fun_mk ?l ?c ?k); (case a=>k_is); (case l=>k_is); (case c=>k_is); (case k=>k_is))
    (case d2=>refine' L2.FnAt.mk _ _ ?a (L2.fun_mk ?l ?c ?k); (case a=>k_is); (case l=>k_is); (case c=>k_is); (case k=>k_is))
    (case m3=>refine' L2.MethAt.mk 332 267 _ ?qa ?q5 ?q6 ?q7 ?q8 ?m1 ?m2 ?m3 (L2.fun_mk ?ql ?qc ?qk); (case qa=>k_is); (case q5=>kernel_rfl); (case q6=>kernel_rfl); (case q7=>kernel_rfl); (case q8=>k_is); (case m1=>k_is); (case m2=>kernel_rfl); (case m3=>kernel_rfl); (case ql=>k_is); (case qc=>k_is); (case qk=>k_is))
    (case m4=>refine' L2.MethAt.mk 332 272 _ ?qa ?q5 ?q6 ?q7 ?q8 ?m1 ?m2 ?m3 (L2.fun_mk ?ql ?qc ?qk); (case qa=>k_is); (case q5=>kernel_rfl); (case q6=>kernel_rfl); (case q7=>kernel_rfl); (case q8=>k_is); (case m1=>k_is); (case m2=>kernel_rfl); (case m3=>kernel_rfl); (case ql=>k_is); (case qc=>k_is); (case qk=>k_is))
    (case m5=>refine' L2.MethAt.mk 332 277 _ ?qa ?q5 ?q6 ?q7 ?q8 ?m1 ?m2 ?m3 (L2.fun_mk ?ql ?qc ?qk); (case qa=>k_is); (case q5=>kernel_rfl); (case q6=>kernel_rfl); (case q7=>kernel_rfl); (case q8=>k_is); (case m1=>k_is); (case m2=>kernel_rfl); (case m3=>kernel_rfl); (case ql=>k_is); (case qc=>k_is); (case qk=>k_is))
    (case m6=>refine' L2.MethAt.mk 332 284 _ ?qa ?q5 ?q6 ?q7 ?q8 ?m1 ?m2 ?m3 (L2.fun_mk ?ql ?qc ?qk); (case qa=>k_is); (case q5=>kernel_rfl); (case q6=>kernel_rfl); (case q7=>kernel_rfl); (case q8=>k_is); (case m1=>k_is); (case m2=>kernel_rfl); (case m3=>kernel_rfl); (case ql=>k_is); (case qc=>k_is); (case qk=>k_is))
    (case m7=>refine' L2.MethAt.mk 332 291 _ ?qa ?q5 ?q6 ?q7 ?q8 ?m1 ?m2 ?m3 (L2.fun_mk ?ql ?qc ?qk); (case qa=>k_is); (case q5=>kernel_rfl); (case q6=>kernel_rfl); (case q7=>kernel_rfl); (case q8=>k_is); (case m1=>k_is); (case m2=>kernel_rfl); (case m3=>kernel_rfl); (case ql=>k_is); (case qc=>k_is); (case qk=>k_is))
    (case d8=>refine' L2.FnAt.mk _ _ ?a (L2.fun_mk ?l ?c ?k); (case a=>k_is); (case l=>k_is); (case c=>k_is); (case k=>k_is))
    (case w9=>refine' L2.ClsW.mk 332 260 _ ?qa ?q1 ?q2 ?q3 ?q4 (L2.fun_mk ?ql ?qc ?qk); (case qa=>k_is); (case q1=>kernel_rfl); (case q2=>k_is); (case q3=>kernel_rfl); (case q4=>kernel_rfl); (case ql=>k_is); (case qc=>k_is); (case qk=>k_is))
    (case d10=>refine' L2.FnAt.mk _ _ ?a (L2.fun_mk ?l ?c ?k); (case a=>k_is); (case l=>k_is); (case c=>k_is); (case k=>k_is))
    (case d11=>refine' L2.FnAt.mk _ _ ?a (L2.fun_mk ?l ?c ?k); (case a=>k_is); (case l=>k_is); (case c=>k_is); (case k=>k_is))
    (case d12=>refine' L2.FnAt.mk _ _ ?a (L2.fun_mk ?l ?c ?k); (case a=>k_is); (case l=>k_is); (case c=>k_is); (case k=>k_is))
    (case w13=>refine' L2.ClsW.mk 332 260 _ ?qa ?q1 ?q2 ?q3 ?q4 (L2.fun_mk ?ql ?qc ?qk); (case qa=>k_is); (case q1=>kernel_rfl); (case q2=>k_is); (case q3=>kernel_rfl); (case q4=>kernel_rfl); (case ql=>k_is); (case qc=>k_is); (case qk=>k_is))
    (case m14=>refine' L2.MethAt.mk 332 298 _ ?qa ?q5 ?q6 ?q7 ?q8 ?m1 ?m2 ?m3 (L2.fun_mk ?ql ?qc ?qk); (case qa=>k_is); (case q5=>kernel_rfl); (case q6=>kernel_rfl); (case q7=>kernel_rfl); (case q8=>k_is); (case m1=>k_is); (case m2=>kernel_rfl); (case m3=>kernel_rfl); (case ql=>k_is); (case qc=>k_is); (case qk=>k_is))
    (case m15=>refine' L2.MethAt.mk 332 305 _ ?qa ?q5 ?q6 ?q7 ?q8 ?m1 ?m2 ?m3 (L2.fun_mk ?ql ?qc ?qk); (case qa=>k_is); (case q5=>kernel_rfl); (case q6=>kernel_rfl); (case q7=>kernel_rfl); (case q8=>k_is); (case m1=>k_is); (case m2=>kernel_rfl); (case m3=>kernel_rfl); (case ql=>k_is); (case qc=>k_is); (case qk=>k_is))
    (case m16=>refine' L2.MethAt.mk 332 319 _ ?qa ?q5 ?q6 ?q7 ?q8 ?m1 ?m2 ?m3 (L2.fun_mk ?ql ?qc ?qk); (case qa=>k_is); (case q5=>kernel_rfl); (case q6=>kernel_rfl); (case q7=>kernel_rfl); (case q8=>k_is); (case m1=>k_is); (case m2=>kernel_rfl); (case m3=>kernel_rfl); (case ql=>k_is); (case qc=>k_is); (case qk=>k_is))
    (case m17=>refine' L2.MethAt.mk 332 312 _ ?qa ?q5 ?q6 ?q7 ?q8 ?m1 ?m2 ?m3 (L2.fun_mk ?ql ?qc ?qk); (case qa=>k_is); (case q5=>kernel_rfl); (case q6=>kernel_rfl); (case q7=>kernel_rfl); (case q8=>k_is); (case m1=>k_is); (case m2=>kernel_rfl); (case m3=>kernel_rfl); (case ql=>k_is); (case qc=>k_is); (case qk=>k_is))
    (case m18=>refine' L2.MethAt.mk 332 324 _ ?qa ?q5 ?q6 ?q7 ?q8 ?m1 ?m2 ?m3 (L2.fun_mk ?ql ?qc ?qk); (case qa=>k_is); (case q5=>kernel_rfl); (case q6=>kernel_rfl); (case q7=>kernel_rfl); (case q8=>k_is); (case m1=>k_is); (case m2=>kernel_rfl); (case m3=>kernel_rfl); (case ql=>k_is); (case qc=>k_is); (case qk=>k_is))
    (case m19=>refine' L2.MethAt.mk 332 329 _ ?qa ?q5 ?q6 ?q7 ?q8 ?m1 ?m2 ?m3 (L2.fun_mk ?ql ?qc ?qk); (case qa=>k_is); (case q5=>kernel_rfl); (case q6=>kernel_rfl); (case q7=>kernel_rfl); (case q8=>k_is); (case m1=>k_is); (case m2=>kernel_rfl); (case m3=>kernel_rfl); (case ql=>k_is); (case qc=>k_is); (case qk=>k_is))
    (case d20=>refine' L2.FnAt.mk _ _ ?a (L2.fun_mk ?l ?c ?k); (case a=>k_is); (case l=>k_is); (case c=>k_is); (case k=>k_is))
    (case d21=>refine' L2.FnAt.mk _ _ ?a (L2.fun_mk ?l ?c ?k); (case a=>k_is); (case l=>k_is); (case c=>k_is); (case k=>k_is))
    (case d22=>refine' L2.FnAt.mk _ _ ?a (L2.fun_mk ?l ?c ?k); (case a=>k_is); (case l=>k_is); (case c=>k_is); (case k=>k_is))
    (case d23=>refine' L2.FnAt.mk _ _ ?a (L2.fun_mk ?l ?c ?k); (case a=>k_is); (case l=>k_is); (case c=>k_is); (case k=>k_is))
    (case d24=>refine' L2.FnAt.mk _ _ ?a (L2.fun_mk ?l ?c ?k); (case a=>k_is); (case l=>k_is); (case c=>k_is); (case k=>k_is))
    (case d25=>refine' L2.FnAt.mk _ _ ?a (L2.fun_mk ?l ?c ?k); (case a=>k_is); (case l=>k_is); (case c=>k_is); (case k=>k_is))
    (case d26=>refine' L2.FnAt.mk _ _ ?a (L2.fun_mk ?l ?c ?k); (case a=>k_is); (case l=>k_is); (case c=>k_is); (case k=>k_is))
    (case d27=>refine' L2.FnAt.mk _ _ ?a (L2.fun_mk ?l ?c ?k); (case a=>k_is); (case l=>k_is); (case c=>k_is); (case k=>k_is))
    (case d28=>refine' L2.FnAt.mk _ _ ?a (L2.fun_mk ?l ?c ?k); (case a=>k_is); (case l=>k_is); (case c=>k_is); (case k=>k_is))
    (case z_all=>kernel_rfl)

